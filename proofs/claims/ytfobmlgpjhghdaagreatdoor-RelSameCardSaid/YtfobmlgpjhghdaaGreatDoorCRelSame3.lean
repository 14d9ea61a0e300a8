/- What RelSame leans on: Un Id Ia Ib Ig Ic Uo Ih Ie Ii Ob Ip Iq Ik Ir Qs -/
import Derived.Test.YtfobmlgpjhghdaaGreatDoorCRelSame2
import Derived.Lib.SmallJoins
import Derived.Test.YtfobmlgpjhghdaaGreatDoorRows
import Derived.JoinedCond
import Derived.ProofKit
namespace Go.Proofs.YtfobmlgpjhghdaaGreatDoor
set_option linter.unusedVariables false
set_option linter.unusedSimpArgs false
open Go.ChangeShapes Go.WideShapes Go.ChangeAt Go.RowKit
def oLy (k : Int) (Y : Nat → Int) : Int := if k = 2 then 0 else Y 0
def oHx (k : Int) (X Y : Nat → Int) : Int := if k = 3 then X 1 else if k = 2 then Y 0 else X 0
def oHy (k : Int) (Y : Nat → Int) : Int := if k = 3 then Y 1 else if k = 2 then 0 else Y 0
def maA (k : Int) (n : Nat) (X Y : Nat → Int) (kq qlx qly qhx qhy : Int) (m : Nat) (P Q : Nat → Int) : Bool := if k = 4 then mpV n X Y kq qlx qly qhx qhy m P Q else msV (X 0) (oLy k Y) (oHx k X Y) (oHy k Y) kq qlx qly qhx qhy m P Q
def diA (k : Int) (n : Nat) (X Y : Nat → Int) (px py : Int) : Nat × Nat := if k = 4 then faP n X Y px py else ((distZ (X 0) (oLy k Y) (oHx k X Y) (oHy k Y) px py).toNat, 1)
theorem obj_box {k : Int} {n : Nat} {X Y : Nat → Int} (h : objC k n X Y = 0) (h4 : k ≠ 4) : (k = 1 ∧ n = 1 ∨ k = 2 ∧ n = 1 ∨ k = 3 ∧ n = 2) ∧ objC k n X Y = boxN (X 0) (oLy k Y) (oHx k X Y) (oHy k Y) ∧ boxN (X 0) (oLy k Y) (oHx k X Y) (oHy k Y) = 0 := by
  have e : objC k n X Y = 0 := h
  unfold objC at e
  rw [if_neg h4] at e
  by_cases k3 : k = 3
  · subst k3
    rw [if_pos rfl] at e
    by_cases hn : n = 2
    · subst hn
      rw [if_pos rfl] at e
      exact ⟨Or.inr (Or.inr ⟨rfl, rfl⟩), by rw [objC_3, if_pos rfl]; rfl, e⟩
    · rw [if_neg hn] at e; cases e
  rw [if_neg k3] at e
  by_cases k1 : k = 1
  · subst k1
    rw [if_pos rfl] at e
    by_cases hn : n = 1
    · subst hn
      rw [if_pos rfl] at e
      exact ⟨Or.inl ⟨rfl, rfl⟩, by rw [objC_1, if_pos rfl]; rfl, e⟩
    · rw [if_neg hn] at e; cases e
  rw [if_neg k1] at e
  by_cases k2 : k = 2
  · subst k2
    rw [if_pos rfl] at e
    by_cases hn : n = 1
    · subst hn
      rw [if_pos rfl] at e
      exact ⟨Or.inr (Or.inl ⟨rfl, rfl⟩), by rw [objC_2, if_pos rfl]; rfl, e⟩
    · rw [if_neg hn] at e; cases e
  rw [if_neg k2] at e
  cases e
theorem bl_of {W : World} {k : Int} {n : Nat} {X Y : Nat → Int} {v : Value} (hp : Pts W v n X Y) (h : objC k n X Y = 0) (h4 : k ≠ 4) : BL W k v (X 0) (oLy k Y) (oHx k X Y) (oHy k Y) := by
  obtain ⟨hk, he, -⟩ := obj_box h h4
  have hp0 := hp
  obtain ⟨ad, cap, B, off, rfl, q1, q2, q3, q4⟩ := hp
  rcases hk with ⟨rfl, rfl⟩ | ⟨rfl, rfl⟩ | ⟨rfl, rfl⟩
  · obtain rfl := q3 (by omega)
    obtain ⟨c0, c1⟩ := q4 0 (by omega)
    rw [Nat.zero_mul, Nat.add_zero] at c0 c1
    exact ⟨⟨Or.inl rfl, ⟨_, _, _, rfl⟩, fun w' g => c_frame_1 (X 0) (Y 0) B off cap w' (cell_gr g c0) (cell_gr g c1) (World.block_lt_of_cell? _ _ (cell_gr g c0))⟩, 1, X, Y, hp0, he⟩
  · obtain rfl := q3 (by omega)
    obtain ⟨c0, c1⟩ := q4 0 (by omega)
    rw [Nat.zero_mul, Nat.add_zero] at c0 c1
    exact ⟨⟨Or.inr (Or.inl rfl), ⟨_, _, _, rfl⟩, fun w' g => c_frame_2 (X 0) (Y 0) B off cap w' (cell_gr g c0) (cell_gr g c1) (World.block_lt_of_cell? _ _ (cell_gr g c0))⟩, 1, X, Y, hp0, he⟩
  · obtain rfl := q3 (by omega)
    obtain ⟨c0, c1⟩ := q4 0 (by omega)
    obtain ⟨c2, c3⟩ := q4 1 (by omega)
    rw [Nat.zero_mul, Nat.add_zero] at c0 c1
    rw [Nat.one_mul] at c2 c3
    exact ⟨⟨Or.inr (Or.inr rfl), ⟨_, _, _, rfl⟩, fun w' g => c_frame_3 (X 0) (Y 0) (X 1) (Y 1) B off cap w' (cell_gr g c0) (cell_gr g c1) (cell_gr g c2) (cell_gr g c3) (World.block_lt_of_cell? _ _ (cell_gr g c0))⟩, 2, X, Y, hp0, he⟩
set_option maxHeartbeats 4000000 in
set_option maxRecDepth 100000 in
theorem dist_ok {k : Int} {n : Nat} {X Y : Nat → Int} {v : Value} (px py : Int) (dh dl dd : Nat) (W : World) (hE : ErrT W) (h : Pts W v n X Y) (hc : objC k n X Y = 0) (hp : nearB px py = true)
    (C3 : ∀ w, Gr W w → Calls Tryz.prog 46 #[.agg #[.int .i64 k, v], .agg #[.int .i64 px, .int .i64 py]] w fun e w' => e = .returned (.agg #[.int .u64 dh, .int .u64 dl, .int .u64 dd]) ∧ Gr w w') :
    Calls Tryz.prog 15 #[.agg #[.int .i64 k, v], .agg #[.int .i64 px, .int .i64 py]] W fun e w' => e = .returned (.agg #[.int .u64 dh, .int .u64 dl, .int .u64 dd]) ∧ Gr W w' := by
  have B2 := c_CheckPoint px py
  rw [hp, if_pos rfl] at B2
  have B4 : ∀ (w : World) (D : Nat) (x : Value) (q : Bool), Gr W w → w.cell? ⟨D, 0, none⟩ = some x → NF x → (q = true ↔ x = .nilIface) → Calls Tryz.prog 39 #[.slice (some ⟨D, 0, none⟩) 1 1] w fun e w' => e = .returned (.bool q) ∧ Gr w w' := fun w D x q g h0 n0 hq =>
    c_allowed (D := D) (n := 1) (cap := 1) (e := fun _ => x) w (errT_gr hE g) (by omega) (fun k hk => by match k, hk with | 0, _ => exact h0) (fun k hk => n0) (World.block_lt_of_cell? _ _ h0) (Nat.le_refl _) q (by
      rw [hq]
      exact ⟨fun a k _ => a, fun h => h 0 (by omega)⟩)
  have C1 : ∀ w, Gr W w → Calls Tryz.prog 34 #[.agg #[.int .i64 k, v]] w fun e w' => e = .returned .nilIface ∧ Gr w w' := fun w g => (c_relCheck k w (pts_gr h g)).mono (by
    rintro e w' ⟨x, rfl, hx, g'⟩
    rw [hc] at hx
    obtain rfl := (werr_nf hx).2.2 rfl
    exact ⟨rfl, g'⟩)
  obtain ⟨ad, cap, _, _, rfl, -⟩ := h
  have H1 := Lib.hid C1
  have H2 := Lib.hid B2
  have H3 := Lib.hid C3
  have H4 := Lib.hid B4
  clear C1 B2 C3 B4
  clear hp hc hE
  go_enter Tryz.func15, Tryz.ntmps15
  go_wp2_with fail
  go_at_call 34
  refine ((H1.out _ (by go_grown))).mono ?_
  rintro e w1 ⟨rfl, hw1⟩
  have cw1_0_0 := ci hw1 (W.heap.size) 0 k (by go_simp)
  have cw1_0_1 := cg hw1 (W.heap.size) 1 (.slice ad n cap) (by go_simp)
  have zw1_0 := zb cw1_0_0
  have cw1_1_0 := ci hw1 (W.heap.size + 1) 0 px (by go_simp)
  have cw1_1_1 := ci hw1 (W.heap.size + 1) 1 py (by go_simp)
  have zw1_1 := zb cw1_1_0
  have cw1_2_0 := cu hw1 (W.heap.size + 1 + 1) 0 0 (by go_simp)
  have fw1_2_0 := fq hw1 (W.heap.size + 1 + 1) 0 (.int .u64 0) (by go_simp) (by go_simp)
  have cw1_2_1 := cu hw1 (W.heap.size + 1 + 1) 1 0 (by go_simp)
  have fw1_2_1 := fq hw1 (W.heap.size + 1 + 1) 1 (.int .u64 0) (by go_simp) (by go_simp)
  have cw1_2_2 := cu hw1 (W.heap.size + 1 + 1) 2 0 (by go_simp)
  have fw1_2_2 := fq hw1 (W.heap.size + 1 + 1) 2 (.int .u64 0) (by go_simp) (by go_simp)
  have zw1_2 := zb cw1_2_0
  have gw1 : Gr W w1 := Gr.trans (by go_grown) hw1
  clear hw1
  go_wp2_with fail
  go_at_call 39
  refine ((H4.out _ _ _ true (by have gg := gw1; have gs := gg.size; go_grown) (by go_simp) nf_nil (by simp))).mono ?_
  rintro e w2 ⟨rfl, hw2⟩
  have cw2_0_0 := ci hw2 (W.heap.size) 0 k (by go_simp)
  have cw2_0_1 := cg hw2 (W.heap.size) 1 (.slice ad n cap) (by go_simp)
  have cw2_1_0 := ci hw2 (W.heap.size + 1) 0 px (by go_simp)
  have cw2_1_1 := ci hw2 (W.heap.size + 1) 1 py (by go_simp)
  have cw2_2_0 := cu hw2 (W.heap.size + 1 + 1) 0 0 (by go_simp)
  have fw2_2_0 := fq hw2 (W.heap.size + 1 + 1) 0 (.int .u64 0) (by go_simp) (by go_simp)
  have cw2_2_1 := cu hw2 (W.heap.size + 1 + 1) 1 0 (by go_simp)
  have fw2_2_1 := fq hw2 (W.heap.size + 1 + 1) 1 (.int .u64 0) (by go_simp) (by go_simp)
  have cw2_2_2 := cu hw2 (W.heap.size + 1 + 1) 2 0 (by go_simp)
  have fw2_2_2 := fq hw2 (W.heap.size + 1 + 1) 2 (.int .u64 0) (by go_simp) (by go_simp)
  have gw2 : Gr W w2 := Gr.trans (by have gg := gw1; have gs := gg.size; go_grown) hw2
  clear hw2 gw1 zw1_0 cw1_0_0 cw1_0_1 zw1_1 cw1_1_0 cw1_1_1 zw1_2 cw1_2_0 fw1_2_0 cw1_2_1 fw1_2_1 cw1_2_2 fw1_2_2
  go_wp2_with fail
  go_at_call 45
  refine ((H2.out _)).mono ?_
  rintro e w3 ⟨rfl, hw3⟩
  have cw3_0_0 := ci hw3 (W.heap.size) 0 k (by go_simp)
  have cw3_0_1 := cg hw3 (W.heap.size) 1 (.slice ad n cap) (by go_simp)
  have cw3_1_0 := ci hw3 (W.heap.size + 1) 0 px (by go_simp)
  have cw3_1_1 := ci hw3 (W.heap.size + 1) 1 py (by go_simp)
  have cw3_2_0 := cu hw3 (W.heap.size + 1 + 1) 0 0 (by go_simp)
  have fw3_2_0 := fq hw3 (W.heap.size + 1 + 1) 0 (.int .u64 0) (by go_simp) (by go_simp)
  have cw3_2_1 := cu hw3 (W.heap.size + 1 + 1) 1 0 (by go_simp)
  have fw3_2_1 := fq hw3 (W.heap.size + 1 + 1) 1 (.int .u64 0) (by go_simp) (by go_simp)
  have cw3_2_2 := cu hw3 (W.heap.size + 1 + 1) 2 0 (by go_simp)
  have fw3_2_2 := fq hw3 (W.heap.size + 1 + 1) 2 (.int .u64 0) (by go_simp) (by go_simp)
  have gw3 : Gr W w3 := Gr.trans (by have gg := gw2; have gs := gg.size; go_grown) hw3
  clear hw3 gw2 cw2_0_0 cw2_0_1 cw2_1_0 cw2_1_1 cw2_2_0 fw2_2_0 cw2_2_1 fw2_2_1 cw2_2_2 fw2_2_2
  go_wp2_with fail
  go_at_call 46
  refine ((H3.out _ (by have gg := gw3; have gs := gg.size; go_grown))).mono ?_
  rintro e w4 ⟨rfl, hw4⟩
  have cw4_2_0 := cu hw4 (W.heap.size + 1 + 1) 0 0 (by go_simp)
  have fw4_2_0 := fq hw4 (W.heap.size + 1 + 1) 0 (.int .u64 0) (by go_simp) (by go_simp)
  have cw4_2_1 := cu hw4 (W.heap.size + 1 + 1) 1 0 (by go_simp)
  have fw4_2_1 := fq hw4 (W.heap.size + 1 + 1) 1 (.int .u64 0) (by go_simp) (by go_simp)
  have cw4_2_2 := cu hw4 (W.heap.size + 1 + 1) 2 0 (by go_simp)
  have fw4_2_2 := fq hw4 (W.heap.size + 1 + 1) 2 (.int .u64 0) (by go_simp) (by go_simp)
  have gw4 : Gr W w4 := Gr.trans (by have gg := gw3; have gs := gg.size; go_grown) hw4
  clear hw4 gw3 cw3_0_0 cw3_0_1 cw3_1_0 cw3_1_1 cw3_2_0 fw3_2_0 cw3_2_1 fw3_2_1 cw3_2_2 fw3_2_2
  go_wp2_with fail
  refine bodyPost_ret (v := .agg #[.int .u64 dh, .int .u64 dl, .int .u64 dd]) (by simp [results, Tryz.results15, go_sem, *]) rfl ⟨rfl, by go_grown⟩
theorem distZ_lt {lx ly hx hy px py : Int} (hb : boxB lx ly hx hy = true) (hp : nearB px py = true) : 0 ≤ distZ lx ly hx hy px py ∧ distZ lx ly hx hy px py < 18446744073709551616 := by
  obtain ⟨⟨a, b⟩, c, d⟩ := boxB_iff.1 hb
  have a := Rg.nearB_iff'.1 a
  have b := Rg.nearB_iff'.1 b
  have p := Rg.nearB_iff'.1 hp
  have e : ∀ lo hi v : Int, lo ≤ hi → -1073741823 ≤ lo → hi ≤ 1073741823 → -1073741823 ≤ v → v ≤ 1073741823 → 0 ≤ beyZ lo hi v * beyZ lo hi v ∧ beyZ lo hi v * beyZ lo hi v ≤ 2147483646 * 2147483646 := fun lo hi v h1 h2 h3 h4 h5 => by
    have hb : 0 ≤ beyZ lo hi v ∧ beyZ lo hi v ≤ 2147483646 := by unfold beyZ; split <;> (try split) <;> omega
    exact ⟨Int.mul_nonneg hb.1 hb.1, Int.mul_le_mul hb.2 hb.2 hb.1 (by omega)⟩
  have e1 := e lx hx px c (by omega) (by omega) (by omega) (by omega)
  have e2 := e ly hy py d (by omega) (by omega) (by omega) (by omega)
  unfold distZ
  omega
theorem c_DistAny {k : Int} {n : Nat} {X Y : Nat → Int} {v : Value} (px py : Int) (W : World) (hE : ErrT W) (h : Pts W v n X Y) (hc : objC k n X Y = 0) (hp : nearB px py = true) :
    Calls Tryz.prog 15 #[.agg #[.int .i64 k, v], .agg #[.int .i64 px, .int .i64 py]] W fun e w' => e = .returned (dV (diA k n X Y px py)) ∧ Gr W w' := by
  refine dist_ok px py _ _ _ W hE h hc hp fun w g => ?_
  unfold diA
  by_cases h4 : k = 4
  · subst h4
    rw [if_pos rfl]
    rw [objC_4] at hc
    exact c_FarA w (pts_gr h g) hc hp
  · rw [if_neg h4]
    obtain ⟨-, -, e⟩ := obj_box hc h4
    have hb := boxN_0.1 e
    obtain ⟨d0, d1⟩ := distZ_lt hb hp
    have C := c_FarB w (bl_gr (bl_of h hc h4) g).1 hb hp
    generalize distZ (X 0) (oLy k Y) (oHx k X Y) (oHy k Y) px py = z at C d0 d1 ⊢
    obtain ⟨m, rfl⟩ := Int.eq_ofNat_of_zero_le d0
    have e1 : m / 18446744073709551616 = 0 := by omega
    have e2 : m % 18446744073709551616 = m := by omega
    show Calls _ _ _ _ _
    simp only [Int.toNat_natCast, e1, e2]
    exact C
end Go.Proofs.YtfobmlgpjhghdaaGreatDoor
namespace Go.Proofs.YtfobmlgpjhghdaaGreatDoor
set_option linter.unusedVariables false
set_option linter.unusedSimpArgs false
open Go.ChangeShapes Go.WideShapes Go.ChangeAt Go.RowKit
theorem c_MatchG {k : Int} {n : Nat} {X Y : Nat → Int} {v : Value} {m : Nat} {P Q : Nat → Int} {u : Value} (kq qlx qly qhx qhy : Int) (W : World) (hE : ErrT W) (h : Pts W v n X Y) (hu : Pts W u m P Q) :
    Calls Tryz.prog 13 #[.agg #[.int .i64 k, v], qryV kq qlx qly qhx qhy u] W fun e w' => e = .returned (.bool (decide (objC k n X Y = 0) && decide (qC kq qlx qly qhx qhy m P Q = 0) && maA k n X Y kq qlx qly qhx qhy m P Q)) ∧ Gr W w' := by
  have A1 : ∀ w, Gr W w → Calls Tryz.prog 34 #[.agg #[.int .i64 k, v]] w fun e w' => ∃ x, e = .returned x ∧ WErr objectS w' x k (objC k n X Y) ∧ Gr w w' := fun w g => c_relCheck k w (pts_gr h g)
  have A2 : ∀ w, Gr W w → Calls Tryz.prog 40 #[qryV kq qlx qly qhx qhy u] w fun e w' => ∃ x, e = .returned x ∧ WErr queryS w' x kq (qC kq qlx qly qhx qhy m P Q) ∧ Gr w w' := fun w g => c_CheckQuery kq qlx qly qhx qhy w (pts_gr hu g)
  have A3 : objC k n X Y = 0 → qC kq qlx qly qhx qhy m P Q = 0 → ∀ w, Gr W w → Calls Tryz.prog 41 #[.agg #[.int .i64 k, v], qryV kq qlx qly qhx qhy u] w fun e w' => e = .returned (.bool (maA k n X Y kq qlx qly qhx qhy m P Q)) ∧ Gr w w' := fun hc hd w g => by
    have h4 : kq = 4 → (Rg.ringC m P Q).1 = 0 := fun h4 => by unfold qC at hd; rw [if_neg (by omega), if_neg (by omega), if_pos h4] at hd; exact hd
    unfold maA
    by_cases k4 : k = 4
    · subst k4
      rw [if_pos rfl]
      rw [objC_4] at hc
      exact c_MatchesP kq qlx qly qhx qhy w (pts_gr h g) hc (pts_gr hu g) h4
    · rw [if_neg k4]
      exact c_MatchesB kq qlx qly qhx qhy w (bl_of (pts_gr h g) hc k4).1 (pts_gr hu g) h4
  obtain ⟨ad, cap, _, _, rfl, -⟩ := h
  obtain ⟨bd, bcap, _, _, rfl, -⟩ := hu
  exact match_core kq qlx qly qhx qhy ad bd n cap m bcap _ _ _ W hE A1 A2 A3
def dG (ok : Bool) (s : Nat × Nat) : Value := if ok then dV s else .agg #[.int .u64 0, .int .u64 0, .int .u64 0]
section
variable {k : Int} {n : Nat} {X Y : Nat → Int} {v : Value}
set_option maxHeartbeats 4000000 in
set_option maxRecDepth 100000 in
theorem dist_no1 (ad : Option Addr) (cap : Nat) (px py : Int) (W : World)
    (C1 : ∀ w, Gr W w → Calls Tryz.prog 34 #[.agg #[.int .i64 k, .slice ad n cap]] w fun e w' => ∃ B, e = .returned (.iface 84 (.pointer (some ⟨B, 0, none⟩))) ∧ Gr w w')
    (B4 : ∀ (w : World) (D : Nat) (x : Value) (q : Bool), Gr W w → w.cell? ⟨D, 0, none⟩ = some x → NF x → (q = true ↔ x = .nilIface) → Calls Tryz.prog 39 #[.slice (some ⟨D, 0, none⟩) 1 1] w fun e w' => e = .returned (.bool q) ∧ Gr w w') :
    Calls Tryz.prog 15 #[.agg #[.int .i64 k, .slice ad n cap], .agg #[.int .i64 px, .int .i64 py]] W fun e w' => e = .returned (.agg #[.int .u64 0, .int .u64 0, .int .u64 0]) ∧ Gr W w' := by
  have H1 := Lib.hid C1
  have H4 := Lib.hid B4
  clear C1 B4
  go_enter Tryz.func15, Tryz.ntmps15
  go_wp2_with fail
  go_at_call 34
  refine (H1.out _ (by go_grown)).mono ?_
  rintro e w1 ⟨B5, rfl, g1⟩
  have c20 := cu g1 (W.heap.size + 1 + 1) 0 0 (by go_simp)
  have c21 := cu g1 (W.heap.size + 1 + 1) 1 0 (by go_simp)
  have c22 := cu g1 (W.heap.size + 1 + 1) 2 0 (by go_simp)
  have f20 := fq g1 (W.heap.size + 1 + 1) 0 (.int .u64 0) (by go_simp) (by go_simp)
  have f21 := fq g1 (W.heap.size + 1 + 1) 1 (.int .u64 0) (by go_simp) (by go_simp)
  have f22 := fq g1 (W.heap.size + 1 + 1) 2 (.int .u64 0) (by go_simp) (by go_simp)
  have z2 := World.block_lt_of_cell? _ _ c20
  have gw1 : Gr W w1 := Gr.trans (by go_grown) g1
  clear g1
  go_wp2_with fail
  go_at_call 39
  refine ((H4.out _ _ _ false (by have gg := gw1; have gs := gg.size; go_grown) (by go_simp) (nf_f B5) (by simp))).mono ?_
  rintro e w2 ⟨rfl, hw2⟩
  have cw2_0_0 := cu hw2 (W.heap.size + 1 + 1) 0 0 (by go_simp)
  have fw2_0_0 := fq hw2 (W.heap.size + 1 + 1) 0 (.int .u64 0) (by go_simp) (by go_simp)
  have cw2_0_1 := cu hw2 (W.heap.size + 1 + 1) 1 0 (by go_simp)
  have fw2_0_1 := fq hw2 (W.heap.size + 1 + 1) 1 (.int .u64 0) (by go_simp) (by go_simp)
  have cw2_0_2 := cu hw2 (W.heap.size + 1 + 1) 2 0 (by go_simp)
  have fw2_0_2 := fq hw2 (W.heap.size + 1 + 1) 2 (.int .u64 0) (by go_simp) (by go_simp)
  have gw2 : Gr W w2 := Gr.trans (by have gg := gw1; have gs := gg.size; go_grown) hw2
  clear hw2 gw1
  go_wp2_with fail
  refine bodyPost_ret (v := .agg #[.int .u64 0, .int .u64 0, .int .u64 0]) (by simp [results, Tryz.results15, go_sem, *]) rfl ⟨rfl, by go_grown⟩
set_option maxHeartbeats 4000000 in
set_option maxRecDepth 100000 in
theorem dist_no2 (ad : Option Addr) (cap : Nat) (px py : Int) (W : World)
    (C1 : ∀ w, Gr W w → Calls Tryz.prog 34 #[.agg #[.int .i64 k, .slice ad n cap]] w fun e w' => e = .returned .nilIface ∧ Gr w w')
    (B2 : ∀ w, Calls Tryz.prog 45 #[.agg #[.int .i64 px, .int .i64 py]] w fun e w' => e = .returned (.iface 66 (.int .i64 2)) ∧ Gr w w')
    (B4 : ∀ (w : World) (D : Nat) (x : Value) (q : Bool), Gr W w → w.cell? ⟨D, 0, none⟩ = some x → NF x → (q = true ↔ x = .nilIface) → Calls Tryz.prog 39 #[.slice (some ⟨D, 0, none⟩) 1 1] w fun e w' => e = .returned (.bool q) ∧ Gr w w') :
    Calls Tryz.prog 15 #[.agg #[.int .i64 k, .slice ad n cap], .agg #[.int .i64 px, .int .i64 py]] W fun e w' => e = .returned (.agg #[.int .u64 0, .int .u64 0, .int .u64 0]) ∧ Gr W w' := by
  have H1 := Lib.hid C1
  have H2 := Lib.hid B2
  have H4 := Lib.hid B4
  clear C1 B2 B4
  go_enter Tryz.func15, Tryz.ntmps15
  go_wp2_with fail
  go_at_call 34
  refine ((H1.out _ (by go_grown))).mono ?_
  rintro e w1 ⟨rfl, hw1⟩
  have cw1_1_0 := ci hw1 (W.heap.size + 1) 0 px (by go_simp)
  have cw1_1_1 := ci hw1 (W.heap.size + 1) 1 py (by go_simp)
  have zw1_1 := zb cw1_1_0
  have cw1_2_0 := cu hw1 (W.heap.size + 1 + 1) 0 0 (by go_simp)
  have fw1_2_0 := fq hw1 (W.heap.size + 1 + 1) 0 (.int .u64 0) (by go_simp) (by go_simp)
  have cw1_2_1 := cu hw1 (W.heap.size + 1 + 1) 1 0 (by go_simp)
  have fw1_2_1 := fq hw1 (W.heap.size + 1 + 1) 1 (.int .u64 0) (by go_simp) (by go_simp)
  have cw1_2_2 := cu hw1 (W.heap.size + 1 + 1) 2 0 (by go_simp)
  have fw1_2_2 := fq hw1 (W.heap.size + 1 + 1) 2 (.int .u64 0) (by go_simp) (by go_simp)
  have zw1_2 := zb cw1_2_0
  have gw1 : Gr W w1 := Gr.trans (by go_grown) hw1
  clear hw1
  go_wp2_with fail
  go_at_call 39
  refine ((H4.out _ _ _ true (by have gg := gw1; have gs := gg.size; go_grown) (by go_simp) nf_nil (by simp))).mono ?_
  rintro e w2 ⟨rfl, hw2⟩
  have cw2_1_0 := ci hw2 (W.heap.size + 1) 0 px (by go_simp)
  have cw2_1_1 := ci hw2 (W.heap.size + 1) 1 py (by go_simp)
  have cw2_2_0 := cu hw2 (W.heap.size + 1 + 1) 0 0 (by go_simp)
  have fw2_2_0 := fq hw2 (W.heap.size + 1 + 1) 0 (.int .u64 0) (by go_simp) (by go_simp)
  have cw2_2_1 := cu hw2 (W.heap.size + 1 + 1) 1 0 (by go_simp)
  have fw2_2_1 := fq hw2 (W.heap.size + 1 + 1) 1 (.int .u64 0) (by go_simp) (by go_simp)
  have cw2_2_2 := cu hw2 (W.heap.size + 1 + 1) 2 0 (by go_simp)
  have fw2_2_2 := fq hw2 (W.heap.size + 1 + 1) 2 (.int .u64 0) (by go_simp) (by go_simp)
  have gw2 : Gr W w2 := Gr.trans (by have gg := gw1; have gs := gg.size; go_grown) hw2
  clear hw2 gw1 zw1_1 cw1_1_0 cw1_1_1 zw1_2 cw1_2_0 fw1_2_0 cw1_2_1 fw1_2_1 cw1_2_2 fw1_2_2
  go_wp2_with fail
  go_at_call 45
  refine ((H2.out _)).mono ?_
  rintro e w3 ⟨rfl, hw3⟩
  have cw3_2_0 := cu hw3 (W.heap.size + 1 + 1) 0 0 (by go_simp)
  have fw3_2_0 := fq hw3 (W.heap.size + 1 + 1) 0 (.int .u64 0) (by go_simp) (by go_simp)
  have cw3_2_1 := cu hw3 (W.heap.size + 1 + 1) 1 0 (by go_simp)
  have fw3_2_1 := fq hw3 (W.heap.size + 1 + 1) 1 (.int .u64 0) (by go_simp) (by go_simp)
  have cw3_2_2 := cu hw3 (W.heap.size + 1 + 1) 2 0 (by go_simp)
  have fw3_2_2 := fq hw3 (W.heap.size + 1 + 1) 2 (.int .u64 0) (by go_simp) (by go_simp)
  have gw3 : Gr W w3 := Gr.trans (by have gg := gw2; have gs := gg.size; go_grown) hw3
  clear hw3 gw2 cw2_1_0 cw2_1_1 cw2_2_0 fw2_2_0 cw2_2_1 fw2_2_1 cw2_2_2 fw2_2_2
  go_wp2_with fail
  refine bodyPost_ret (v := .agg #[.int .u64 0, .int .u64 0, .int .u64 0]) (by simp [results, Tryz.results15, go_sem, *]) rfl ⟨rfl, by go_grown⟩
theorem c_DistG (px py : Int) (W : World) (hE : ErrT W) (h : Pts W v n X Y) :
    Calls Tryz.prog 15 #[.agg #[.int .i64 k, v], .agg #[.int .i64 px, .int .i64 py]] W fun e w' => e = .returned (dG (decide (objC k n X Y = 0) && nearB px py) (diA k n X Y px py)) ∧ Gr W w' := by
  have B1 : ∀ w, Gr W w → Calls Tryz.prog 34 #[.agg #[.int .i64 k, v]] w fun e w' => ∃ x, e = .returned x ∧ (NF x ∧ (x = .nilIface ↔ objC k n X Y = 0)) ∧ Gr w w' := fun w g => (c_relCheck k w (pts_gr h g)).mono (by
    rintro e w' ⟨x, rfl, hx, g'⟩
    exact ⟨x, rfl, werr_nf hx, g'⟩)
  have B4 : ∀ (w : World) (D : Nat) (x : Value) (q : Bool), Gr W w → w.cell? ⟨D, 0, none⟩ = some x → NF x → (q = true ↔ x = .nilIface) → Calls Tryz.prog 39 #[.slice (some ⟨D, 0, none⟩) 1 1] w fun e w' => e = .returned (.bool q) ∧ Gr w w' := fun w D x q g h0 n0 hq =>
    c_allowed (D := D) (n := 1) (cap := 1) (e := fun _ => x) w (errT_gr hE g) (by omega) (fun k hk => by match k, hk with | 0, _ => exact h0) (fun k hk => n0) (World.block_lt_of_cell? _ _ h0) (Nat.le_refl _) q (by
      rw [hq]
      exact ⟨fun a k _ => a, fun h => h 0 (by omega)⟩)
  by_cases hc : objC k n X Y = 0
  · rw [decide_eq_true hc, Bool.true_and]
    cases hp : nearB px py
    · have B2 := c_CheckPoint px py
      rw [hp, if_neg (by decide)] at B2
      obtain ⟨ad, cap, _, _, rfl, -⟩ := h
      exact dist_no2 ad cap px py W (fun w g => (B1 w g).mono (by
        rintro e w' ⟨x, rfl, ⟨-, hx⟩, g'⟩
        obtain rfl := hx.2 hc
        exact ⟨rfl, g'⟩)) B2 B4
    · exact c_DistAny px py W hE h hc hp
  · rw [decide_eq_false hc, Bool.false_and]
    obtain ⟨ad, cap, _, _, rfl, -⟩ := h
    exact dist_no1 ad cap px py W (fun w g => (B1 w g).mono (by
      rintro e w' ⟨x, rfl, ⟨hn, hx⟩, g'⟩
      rcases hn with rfl | ⟨B, rfl⟩
      · exact absurd (hx.1 rfl) hc
      · exact ⟨B, rfl, g'⟩)) B4
def bLx (k : Int) (n : Nat) (X : Nat → Int) : Int := if k = 4 then mnN X n else X 0
def bLy (k : Int) (n : Nat) (Y : Nat → Int) : Int := if k = 4 then mnN Y n else oLy k Y
def bHx (k : Int) (n : Nat) (X Y : Nat → Int) : Int := if k = 4 then mxN X n else oHx k X Y
def bHy (k : Int) (n : Nat) (Y : Nat → Int) : Int := if k = 4 then mxN Y n else oHy k Y
end
end Go.Proofs.YtfobmlgpjhghdaaGreatDoor
namespace Go.Proofs.YtfobmlgpjhghdaaGreatDoor
set_option linter.unusedVariables false
set_option linter.unusedSimpArgs false
section
variable {lx ly hx hy ax ay bx by' px py qx qy : Int}
theorem corner_lo (h : inP lx ly hx hy px py) : ∃ cx cy, (cx = lx ∨ cx = hx) ∧ (cy = ly ∨ cy = hy) ∧ cr ax ay bx by' cx cy ≤ cr ax ay bx by' px py := by
  have e : ∀ cx cy, cr ax ay bx by' cx cy = cr ax ay bx by' px py + (bx - ax) * (cy - py) - (by' - ay) * (cx - px) := fun cx cy => by unfold cr; grind
  unfold inP at h
  have h1 : ∃ cy, (cy = ly ∨ cy = hy) ∧ (bx - ax) * (cy - py) ≤ 0 := by
    by_cases g : 0 ≤ bx - ax
    · exact ⟨ly, Or.inl rfl, Int.mul_nonpos_of_nonneg_of_nonpos g (by omega)⟩
    · exact ⟨hy, Or.inr rfl, Int.mul_nonpos_of_nonpos_of_nonneg (by omega) (by omega)⟩
  have h2 : ∃ cx, (cx = lx ∨ cx = hx) ∧ 0 ≤ (by' - ay) * (cx - px) := by
    by_cases g : 0 ≤ by' - ay
    · exact ⟨hx, Or.inr rfl, Int.mul_nonneg g (by omega)⟩
    · exact ⟨lx, Or.inl rfl, Int.mul_nonneg_of_nonpos_of_nonpos (by omega) (by omega)⟩
  obtain ⟨cy, k1, k2⟩ := h1
  obtain ⟨cx, k3, k4⟩ := h2
  exact ⟨cx, cy, k3, k1, by rw [e]; omega⟩
theorem corner_hi (h : inP lx ly hx hy px py) : ∃ cx cy, (cx = lx ∨ cx = hx) ∧ (cy = ly ∨ cy = hy) ∧ cr ax ay bx by' px py ≤ cr ax ay bx by' cx cy := by
  obtain ⟨cx, cy, e1, e2, e3⟩ := corner_lo (ax := bx) (ay := by') (bx := ax) (by' := ay) h
  rw [cr_flip, cr_flip ax ay bx by' px py] at e3
  exact ⟨cx, cy, e1, e2, by omega⟩
def stP (lx ly hx hy ax ay bx by' : Int) : Prop := ovP lx ly hx hy ax ay bx by' ∧ ∃ px py qx qy, inP lx ly hx hy px py ∧ inP lx ly hx hy qx qy ∧ cr ax ay bx by' px py ≤ 0 ∧ 0 ≤ cr ax ay bx by' qx qy
theorem stP_flip (h : stP lx ly hx hy ax ay bx by') : stP lx ly hx hy bx by' ax ay := by
  obtain ⟨ho, p, q, r, s, h1, h2, h3, h4⟩ := h
  exact ⟨ovP_flip ho, r, s, p, q, h2, h1, by rw [cr_flip]; omega, by rw [cr_flip]; omega⟩
theorem cr_a (ax ay bx by' : Int) : cr ax ay bx by' ax ay = 0 := by unfold cr; grind
theorem stP_a (h : inP lx ly hx hy ax ay) : stP lx ly hx hy ax ay bx by' :=
  ⟨by unfold inP at h; unfold ovP; omega, ax, ay, ax, ay, h, h, by rw [cr_a]; omega, by rw [cr_a]; omega⟩
theorem stP_b (h : inP lx ly hx hy bx by') : stP lx ly hx hy ax ay bx by' := stP_flip (stP_a h)
theorem me_on1 (h : onF ax ay bx by' px py = true) : meF ax ay bx by' px py qx qy = true := by unfold meF enF; simp [h]
theorem me_on2 (h : onF ax ay bx by' qx qy = true) : meF ax ay bx by' px py qx qy = true := by unfold meF enF; simp [h]
theorem st_di (hb : lx ≤ hx ∧ ly ≤ hy) (h : stP lx ly hx hy ax ay bx by') (na : ¬ inP lx ly hx hy ax ay) (nb : ¬ inP lx ly hx hy bx by') : diF lx ly hx hy ax ay bx by' = true := by
  obtain ⟨ho, p, q, r, s, h1, h2, h3, h4⟩ := h
  obtain ⟨c1, c2, e1, e2, e3⟩ := corner_lo (ax := ax) (ay := ay) (bx := bx) (by' := by') h1
  obtain ⟨d1, d2, f1, f2, f3⟩ := corner_hi (ax := ax) (ay := ay) (bx := bx) (by' := by') h2
  have i0 : inP lx ly hx hy lx ly := by unfold inP; omega
  have i1 : inP lx ly hx hy hx ly := by unfold inP; omega
  have i2 : inP lx ly hx hy hx hy := by unfold inP; omega
  have i3 : inP lx ly hx hy lx hy := by unfold inP; omega
  have sum : cr ax ay bx by' lx ly + cr ax ay bx by' hx hy = cr ax ay bx by' hx ly + cr ax ay bx by' lx hy := by unfold cr; grind
  unfold diF
  rw [Bool.or_eq_true]
  by_cases A0 : cr ax ay bx by' lx ly = 0
  · exact Or.inl (me_on1 (on_line i0 ho na nb A0))
  by_cases C0 : cr ax ay bx by' hx hy = 0
  · exact Or.inl (me_on2 (on_line i2 ho na nb C0))
  by_cases D0 : cr ax ay bx by' lx hy = 0
  · exact Or.inr (me_on1 (on_line i3 ho na nb D0))
  by_cases B0 : cr ax ay bx by' hx ly = 0
  · exact Or.inr (me_on2 (on_line i1 ho na nb B0))
  by_cases s1 : (cr ax ay bx by' lx ly ≤ 0 ∧ 0 ≤ cr ax ay bx by' hx hy) ∨ (cr ax ay bx by' hx hy ≤ 0 ∧ 0 ≤ cr ax ay bx by' lx ly)
  · exact Or.inl (line_parts2 i0 i2 ho na nb s1 (by omega))
  · refine Or.inr (line_parts2 i3 i1 ho na nb ?_ ?_)
    · rcases e1 with rfl | rfl <;> rcases e2 with rfl | rfl <;> rcases f1 with rfl | rfl <;> rcases f2 with rfl | rfl <;> omega
    · rcases e1 with rfl | rfl <;> rcases e2 with rfl | rfl <;> rcases f1 with rfl | rfl <;> rcases f2 with rfl | rfl <;> omega
theorem me_parts (h : meF ax ay bx by' px py qx qy = true) (h1 : inP lx ly hx hy px py) (h2 : inP lx ly hx hy qx qy) : stP lx ly hx hy ax ay bx by' := by
  have o := me_opp h
  refine ⟨me_ov h h1 h2, ?_⟩
  by_cases c : cr ax ay bx by' px py ≤ 0 ∧ 0 ≤ cr ax ay bx by' qx qy
  · exact ⟨px, py, qx, qy, h1, h2, c.1, c.2⟩
  · exact ⟨qx, qy, px, py, h2, h1, by omega, by omega⟩
theorem mb_st (hb : lx ≤ hx ∧ ly ≤ hy) : mbF ax ay bx by' lx ly hx hy = true ↔ stP lx ly hx hy ax ay bx by' := by
  unfold mbF
  rw [Bool.and_eq_true, Bool.or_eq_true, Bool.or_eq_true, ovB_iff, inB_P, inB_P]
  constructor
  · rintro ⟨ho, (h | h) | h⟩
    · exact stP_a h
    · exact stP_b h
    · unfold diF at h
      rw [Bool.or_eq_true] at h
      rcases h with h | h
      · exact me_parts h (by unfold inP; omega) (by unfold inP; omega)
      · exact me_parts h (by unfold inP; omega) (by unfold inP; omega)
  · intro h
    refine ⟨h.1, ?_⟩
    by_cases na : inP lx ly hx hy ax ay
    · exact Or.inl (Or.inl na)
    by_cases nb : inP lx ly hx hy bx by'
    · exact Or.inl (Or.inr nb)
    exact Or.inr (st_di hb h na nb)
theorem up_l (h : ay < by') (h1 : ay ≤ py) (h2 : py ≤ by') (ha : px < ax) (hb : px < bx) : 0 < cr ax ay bx by' px py := by
  have e : cr ax ay bx by' px py = (bx - px) * (py - ay) + (ax - px) * (by' - py) := by unfold cr; grind
  rw [e]
  have k1 : 0 ≤ (bx - px) * (py - ay) := Int.mul_nonneg (by omega) (by omega)
  have k2 : 0 ≤ (ax - px) * (by' - py) := Int.mul_nonneg (by omega) (by omega)
  rcases (by omega : ay < py ∨ py < by') with g | g
  · have : 0 < (bx - px) * (py - ay) := Int.mul_pos (by omega) (by omega); omega
  · have : 0 < (ax - px) * (by' - py) := Int.mul_pos (by omega) (by omega); omega
theorem up_r (h : ay < by') (h1 : ay ≤ py) (h2 : py ≤ by') (ha : ax < px) (hb : bx < px) : cr ax ay bx by' px py < 0 := by
  have e : cr ax ay bx by' px py = -((px - bx) * (py - ay) + (px - ax) * (by' - py)) := by unfold cr; grind
  rw [e]
  have k1 : 0 ≤ (px - bx) * (py - ay) := Int.mul_nonneg (by omega) (by omega)
  have k2 : 0 ≤ (px - ax) * (by' - py) := Int.mul_nonneg (by omega) (by omega)
  rcases (by omega : ay < py ∨ py < by') with g | g
  · have : 0 < (px - bx) * (py - ay) := Int.mul_pos (by omega) (by omega); omega
  · have : 0 < (px - ax) * (by' - py) := Int.mul_pos (by omega) (by omega); omega
theorem ovR_up (h : ay ≤ by') : Rg.ovR ax ay bx by' px py = (decide (ay ≤ py ∧ py < by') && decide (0 < cr ax ay bx by' px py)) := by
  unfold Rg.ovR
  rw [if_neg (by omega)]
  by_cases c : ay ≤ py ∧ py < by'
  · rw [if_pos c, decide_eq_true c, Bool.true_and]
  · rw [if_neg c, decide_eq_false c, Bool.false_and]
theorem ovR_swap : Rg.ovR bx by' ax ay px py = Rg.ovR ax ay bx by' px py := by
  unfold Rg.ovR
  by_cases c : by' ≤ py ∧ py < ay
  · rw [if_neg (by omega), if_pos c, if_pos c]
  · rw [if_neg c]
    by_cases d : ay ≤ py ∧ py < by'
    · rw [if_pos d, if_neg c]
    · rw [if_neg d, if_neg c]
theorem bool_iff {a b : Bool} (h : a = true ↔ b = true) : a = b := by cases a <;> cases b <;> simp_all
end
def xorN (f : Nat → Bool) : Nat → Bool
  | 0 => false
  | k + 1 => xorN f k != f k
theorem xor_tel {n : Nat} {f g : Nat → Bool} (hn : 1 ≤ n) (h : ∀ i, i < n → f i = (g i != g (Rg.nx1 n i))) : xorN f n = false := by
  have part : ∀ k, k < n → xorN f k = (g 0 != g k) := by
    intro k
    induction k with
    | zero => intro _; simp [xorN]
    | succ k ih =>
      intro hk
      simp only [xorN]
      rw [ih (by omega), h k (by omega), show Rg.nx1 n k = k + 1 by unfold Rg.nx1; rw [if_neg (by omega)]]
      cases g 0 <;> cases g k <;> cases g (k + 1) <;> rfl
  obtain ⟨k, rfl⟩ : ∃ k, n = k + 1 := ⟨n - 1, by omega⟩
  simp only [xorN]
  rw [part k (by omega), h k (by omega), show Rg.nx1 (k + 1) k = 0 by unfold Rg.nx1; rw [if_pos rfl]]
  cases g 0 <;> cases g k <;> rfl
theorem od_xor (n : Nat) (X Y : Nat → Int) (px py : Int) : ∀ k, Rg.odN n X Y px py k = xorN (fun i => Rg.ovR (X i) (Y i) (X (Rg.nx1 n i)) (Y (Rg.nx1 n i)) px py) k := by
  intro k
  induction k with
  | zero => rfl
  | succ k ih => simp only [Rg.odN, xorN]; rw [ih]
section
variable {n : Nat} {X Y : Nat → Int} {lx ly hx hy px py qx qy : Int}
theorem mn_le (F : Nat → Int) : ∀ n k, k < n → mnN F n ≤ F k := by
  intro n
  induction n with
  | zero => intro k hk; omega
  | succ n ih =>
    intro k hk
    by_cases h : n = 0
    · rw [mnN_0 F h]; obtain rfl : k = n := by omega
      exact Int.le_refl _
    · rw [mnN_s F h]
      rcases (by omega : k < n ∨ k = n) with g | rfl
      · exact min_le'.2 (Or.inl (ih k g))
      · exact min_le'.2 (Or.inr (Int.le_refl _))
theorem le_mx (F : Nat → Int) : ∀ n k, k < n → F k ≤ mxN F n := by
  intro n
  induction n with
  | zero => intro k hk; omega
  | succ n ih =>
    intro k hk
    by_cases h : n = 0
    · rw [mxN_0 F h]; obtain rfl : k = n := by omega
      exact Int.le_refl _
    · rw [mxN_s F h]
      rcases (by omega : k < n ∨ k = n) with g | rfl
      · exact le_max.2 (Or.inl (ih k g))
      · exact le_max.2 (Or.inr (Int.le_refl _))
theorem nxl_of (hn : 1 ≤ n) {i : Nat} (hi : i < n) : Rg.nx1 n i < n := by unfold Rg.nx1; split <;> omega
theorem has_box (hn : 1 ≤ n) (h : Rg.hasN n X Y px py = true) : inP (mnN X n) (mnN Y n) (mxN X n) (mxN Y n) px py := by
  have bd : ∀ i, i < n → mnN X n ≤ X i ∧ X i ≤ mxN X n ∧ mnN Y n ≤ Y i ∧ Y i ≤ mxN Y n := fun i hi => ⟨mn_le X n i hi, le_mx X n i hi, mn_le Y n i hi, le_mx Y n i hi⟩
  unfold Rg.hasN at h
  rw [Bool.or_eq_true] at h
  unfold inP
  rcases h with h | h
  · obtain ⟨i, hi, h⟩ := (Rg.onN_iff n).1 h
    unfold onG at h
    rw [Bool.and_eq_true] at h
    have b := btw_iff.1 (onF_iff.1 h.2).1
    have b1 := bd i hi
    have b2 := bd _ (nxl_of hn hi)
    omega
  ·
    have some_edge : ∀ k, k ≤ n → Rg.odN n X Y px py k = true → ∃ i, i < n ∧ Rg.ovR (X i) (Y i) (X (Rg.nx1 n i)) (Y (Rg.nx1 n i)) px py = true := by
      intro k
      induction k with
      | zero => intro _ h; cases h
      | succ k ih =>
        intro hk h
        simp only [Rg.odN] at h
        cases e : Rg.ovR (X k) (Y k) (X (Rg.nx1 n k)) (Y (Rg.nx1 n k)) px py
        · rw [e] at h
          exact ih (by omega) (by simpa using h)
        · exact ⟨k, hk, e⟩
    obtain ⟨i, hi, hv⟩ := some_edge n (Nat.le_refl _) h
    have b1 := bd i hi
    have b2 := bd _ (nxl_of hn hi)
    have hl : mnN X n ≤ px := by
      rcases Int.lt_or_le px (mnN X n) with g | g
      · exfalso
        have : Rg.odN n X Y px py n = false := by
          rw [od_xor]
          refine xor_tel (g := fun i => decide (Y i ≤ py)) hn fun i hi => ?_
          have c1 := bd i hi
          have c2 := bd _ (nxl_of hn hi)
          have up : ∀ ax ay bx by' : Int, px < ax → px < bx → ay ≤ by' → Rg.ovR ax ay bx by' px py = (decide (ay ≤ py) != decide (by' ≤ py)) := fun ax ay bx by' h1 h2 h3 => by
            rw [ovR_up h3]
            by_cases c : ay ≤ py ∧ py < by'
            · rw [decide_eq_true c, decide_eq_true (up_l (by omega) c.1 (by omega) h1 h2), decide_eq_true c.1, decide_eq_false (p := by' ≤ py) (by omega)]; rfl
            · rw [decide_eq_false c]
              by_cases d : ay ≤ py
              · rw [decide_eq_true d, decide_eq_true (p := by' ≤ py) (by omega)]; rfl
              · rw [decide_eq_false d, decide_eq_false (p := by' ≤ py) (by omega)]; rfl
          by_cases hu : Y i ≤ Y (Rg.nx1 n i)
          · exact up _ _ _ _ (by omega) (by omega) hu
          · show Rg.ovR (X i) (Y i) (X (Rg.nx1 n i)) (Y (Rg.nx1 n i)) px py = _
            rw [← ovR_swap, up _ _ _ _ (by omega) (by omega) (by omega)]
            cases decide (Y i ≤ py) <;> cases decide (Y (Rg.nx1 n i) ≤ py) <;> rfl
        rw [this] at h; cases h
      · exact g
    have up : ∀ ax ay bx by' : Int, ay ≤ by' → Rg.ovR ax ay bx by' px py = true → ay ≤ py ∧ py < by' ∧ (px ≤ ax ∨ px ≤ bx) := fun ax ay bx by' h3 h => by
      rw [ovR_up h3, Bool.and_eq_true, decide_eq_true_eq, decide_eq_true_eq] at h
      refine ⟨h.1.1, h.1.2, ?_⟩
      rcases (by omega : (px ≤ ax ∨ px ≤ bx) ∨ (ax < px ∧ bx < px)) with g | g
      · exact g
      · have := up_r (px := px) (py := py) (by omega : ay < by') h.1.1 (by omega) g.1 g.2
        omega
    by_cases hu : Y i ≤ Y (Rg.nx1 n i)
    · have := up _ _ _ _ hu hv
      omega
    · rw [← ovR_swap] at hv
      have := up _ _ _ _ (by omega) hv
      omega
end
end Go.Proofs.YtfobmlgpjhghdaaGreatDoor
namespace Go.Proofs.YtfobmlgpjhghdaaGreatDoor
set_option linter.unusedVariables false
set_option linter.unusedSimpArgs false
theorem mbG_st {ax ay bx by' lx ly hx hy : Int} (ha : nearB ax ay = true) (hb' : nearB bx by' = true) (hb : boxB lx ly hx hy = true) : mbG ax ay bx by' lx ly hx hy = true ↔ stP lx ly hx hy ax ay bx by' := by
  unfold mbG
  rw [ha, hb', hb]
  simp only [Bool.true_and]
  exact mb_st (boxB_iff.1 hb).2
section
variable {n : Nat} {X Y : Nat → Int} {lx ly hx hy : Int}
theorem mbW_iff : mbW n X Y lx ly hx hy (List.range n) = true ↔ ∃ i, i < n ∧ mbG (X i) (Y i) (X (Rg.nx1 n i)) (Y (Rg.nx1 n i)) lx ly hx hy = true := by
  unfold mbW
  rw [List.any_eq_true]
  constructor
  · rintro ⟨i, hi, h⟩; exact ⟨i, List.mem_range.1 hi, h⟩
  · rintro ⟨i, hi, h⟩; exact ⟨i, List.mem_range.2 hi, h⟩
def rmD (n : Nat) (X Y : Nat → Int) (lx ly hx hy : Int) : Bool := Rg.hasN n X Y lx ly || mbW n X Y lx ly hx hy (List.range n)
theorem rmD_iff (h0 : (Rg.ringC n X Y).1 = 0) (hb : boxB lx ly hx hy = true) : rmD n X Y lx ly hx hy = true ↔ Rg.hasN n X Y lx ly = true ∨ ∃ i, i < n ∧ stP lx ly hx hy (X i) (Y i) (X (Rg.nx1 n i)) (Y (Rg.nx1 n i)) := by
  obtain ⟨h1, h2, -⟩ := Rg.ringC_ok h0
  unfold rmD
  rw [Bool.or_eq_true, mbW_iff]
  constructor
  · rintro (h | ⟨i, hi, h⟩)
    · exact Or.inl h
    · exact Or.inr ⟨i, hi, (mbG_st (h2 i hi) (h2 _ (nxl_of (by omega) hi)) hb).1 h⟩
  · rintro (h | ⟨i, hi, h⟩)
    · exact Or.inl h
    · exact Or.inr ⟨i, hi, (mbG_st (h2 i hi) (h2 _ (nxl_of (by omega) hi)) hb).2 h⟩
theorem bd_mm (n : Nat) (X Y : Nat → Int) (i : Nat) (hi : i < n) : mnN X n ≤ X i ∧ X i ≤ mxN X n ∧ mnN Y n ≤ Y i ∧ Y i ≤ mxN Y n := ⟨mn_le X n i hi, le_mx X n i hi, mn_le Y n i hi, le_mx Y n i hi⟩
theorem rmD_ov (h0 : (Rg.ringC n X Y).1 = 0) (hb : boxB lx ly hx hy = true) (h : rmD n X Y lx ly hx hy = true) : mnN X n ≤ hx ∧ lx ≤ mxN X n ∧ mnN Y n ≤ hy ∧ ly ≤ mxN Y n := by
  obtain ⟨h1, h2, -⟩ := Rg.ringC_ok h0
  have hl := (boxB_iff.1 hb).2
  rcases (rmD_iff h0 hb).1 h with g | ⟨i, hi, g⟩
  · have := has_box (by omega) g
    unfold inP at this
    omega
  · have b1 := bd_mm n X Y i hi
    have b2 := bd_mm n X Y _ (nxl_of (by omega) hi)
    have := g.1
    unfold ovP at this
    omega
theorem ring_box (h0 : (Rg.ringC n X Y).1 = 0) : boxB (mnN X n) (mnN Y n) (mxN X n) (mxN Y n) = true := by
  obtain ⟨h1, h2, -⟩ := Rg.ringC_ok h0
  exact near_box h2 (by omega)
theorem rm_doc (h0 : (Rg.ringC n X Y).1 = 0) (hb : boxB lx ly hx hy = true) : rmV n X Y lx ly hx hy = rmD n X Y lx ly hx hy := by
  have hn := (boxB_iff.1 hb).1.1
  have ov := rmD_ov h0 hb
  have rb := ring_box h0
  unfold rmV arM rmbV
  rw [rb, hb, hn]
  by_cases c : mnN X n ≤ hx ∧ lx ≤ mxN X n ∧ mnN Y n ≤ hy ∧ ly ≤ mxN Y n
  · rw [decide_eq_true c.1, decide_eq_true c.2.1, decide_eq_true c.2.2.1, decide_eq_true c.2.2.2]
    simp only [Bool.true_and]
    unfold rmD
    exact Bool.or_comm _ _
  · have e : rmD n X Y lx ly hx hy = false := by
      cases h : rmD n X Y lx ly hx hy
      · rfl
      · exact absurd (ov h) c
    rw [e]
    have : (decide (mnN X n ≤ hx) && decide (lx ≤ mxN X n) && decide (mnN Y n ≤ hy) && decide (ly ≤ mxN Y n)) = false := by
      rw [← Bool.not_eq_true]
      simp only [Bool.and_eq_true, decide_eq_true_eq, and_assoc]
      exact c
    simp only [Bool.true_and]
    rw [this]
    rfl
end
theorem emW_iff {n : Nat} {X Y : Nat → Int} {px py qx qy : Int} : emW n X Y px py qx qy (List.range n) = true ↔ ∃ i, i < n ∧ meG px py qx qy (X i) (Y i) (X (Rg.nx1 n i)) (Y (Rg.nx1 n i)) = true := by
  unfold emW
  rw [List.any_eq_true]
  constructor
  · rintro ⟨i, hi, h⟩; exact ⟨i, List.mem_range.1 hi, h⟩
  · rintro ⟨i, hi, h⟩; exact ⟨i, List.mem_range.2 hi, h⟩
def rgD (n : Nat) (X Y : Nat → Int) (m : Nat) (P Q : Nat → Int) : Bool :=
  Rg.hasN n X Y (P 0) (Q 0) || Rg.hasN m P Q (X 0) (Y 0) || (List.range n).any fun i => emW m P Q (X i) (Y i) (X (Rg.nx1 n i)) (Y (Rg.nx1 n i)) (List.range m)
section
variable {n m : Nat} {X Y P Q : Nat → Int}
theorem rgD_iff : rgD n X Y m P Q = true ↔ Rg.hasN n X Y (P 0) (Q 0) = true ∨ Rg.hasN m P Q (X 0) (Y 0) = true ∨ ∃ i k, i < n ∧ k < m ∧ meG (X i) (Y i) (X (Rg.nx1 n i)) (Y (Rg.nx1 n i)) (P k) (Q k) (P (Rg.nx1 m k)) (Q (Rg.nx1 m k)) = true := by
  unfold rgD
  rw [Bool.or_eq_true, Bool.or_eq_true, List.any_eq_true, or_assoc]
  constructor
  · rintro (h | h | ⟨i, hi, h⟩)
    · exact Or.inl h
    · exact Or.inr (Or.inl h)
    · obtain ⟨k, hk, h⟩ := emW_iff.1 h
      exact Or.inr (Or.inr ⟨i, k, List.mem_range.1 hi, hk, h⟩)
  · rintro (h | h | ⟨i, k, hi, hk, h⟩)
    · exact Or.inl h
    · exact Or.inr (Or.inl h)
    · exact Or.inr (Or.inr ⟨i, List.mem_range.2 hi, emW_iff.2 ⟨k, hk, h⟩⟩)
theorem meG_F {ax ay bx by' cx cy dx dy : Int} (h : meG ax ay bx by' cx cy dx dy = true) : meF ax ay bx by' cx cy dx dy = true := by
  unfold meG at h
  rw [Bool.and_eq_true] at h
  exact h.2
theorem rg_doc (h0 : (Rg.ringC n X Y).1 = 0) (h9 : (Rg.ringC m P Q).1 = 0) : rgV n X Y m P Q = rgD n X Y m P Q := by
  obtain ⟨h1, h2, -⟩ := Rg.ringC_ok h0
  obtain ⟨k1, k2, -⟩ := Rg.ringC_ok h9
  have rb := ring_box h0
  have rc := ring_box h9
  have hbb := (boxB_iff.1 rc).2
  have edge : ∀ i k, i < n → k < m → meG (X i) (Y i) (X (Rg.nx1 n i)) (Y (Rg.nx1 n i)) (P k) (Q k) (P (Rg.nx1 m k)) (Q (Rg.nx1 m k)) = true → mbG (X i) (Y i) (X (Rg.nx1 n i)) (Y (Rg.nx1 n i)) (mnN P m) (mnN Q m) (mxN P m) (mxN Q m) = true := fun i k hi hk h => by
    rw [mbG_st (h2 i hi) (h2 _ (nxl_of (by omega) hi)) rc]
    have c1 := bd_mm m P Q k hk
    have c2 := bd_mm m P Q _ (nxl_of (by omega) hk)
    exact me_parts (meG_F h) (by unfold inP; omega) (by unfold inP; omega)
  have e1 : rmW n X Y m P Q (mnN P m) (mnN Q m) (mxN P m) (mxN Q m) (List.range n) = (List.range n).any fun i => emW m P Q (X i) (Y i) (X (Rg.nx1 n i)) (Y (Rg.nx1 n i)) (List.range m) := by
    unfold rmW rmE
    refine bool_iff ?_
    rw [List.any_eq_true, List.any_eq_true]
    constructor
    · rintro ⟨i, hi, h⟩
      rw [Bool.and_eq_true] at h
      exact ⟨i, hi, h.2⟩
    · rintro ⟨i, hi, h⟩
      obtain ⟨k, hk, g⟩ := emW_iff.1 h
      exact ⟨i, hi, by rw [Bool.and_eq_true]; exact ⟨edge i k (List.mem_range.1 hi) hk g, h⟩⟩
  unfold rgV
  rw [e1, h2 0 (by omega), k2 0 (by omega)]
  simp only [Bool.true_and]
  have e2 : ((List.range n).any (fun i => emW m P Q (X i) (Y i) (X (Rg.nx1 n i)) (Y (Rg.nx1 n i)) (List.range m)) || (Rg.hasN n X Y (P 0) (Q 0) || Rg.hasN m P Q (X 0) (Y 0))) = rgD n X Y m P Q := by
    unfold rgD
    rw [Bool.or_comm]
  rw [e2]
  unfold arM
  rw [rb, rc]
  by_cases c : mnN X n ≤ mxN P m ∧ mnN P m ≤ mxN X n ∧ mnN Y n ≤ mxN Q m ∧ mnN Q m ≤ mxN Y n
  · rw [decide_eq_true c.1, decide_eq_true c.2.1, decide_eq_true c.2.2.1, decide_eq_true c.2.2.2]
    rfl
  · have e : rgD n X Y m P Q = false := by
      cases h : rgD n X Y m P Q
      · rfl
      · exfalso
        have p0 := bd_mm m P Q 0 (by omega)
        have x0 := bd_mm n X Y 0 (by omega)
        rcases rgD_iff.1 h with g | g | ⟨i, k, hi, hk, g⟩
        · have := has_box (by omega) g
          unfold inP at this
          omega
        · have := has_box (by omega) g
          unfold inP at this
          omega
        · have := me_ap (meG_F g)
          unfold apF at this
          simp only [Bool.or_eq_false_iff, decide_eq_false_iff_not, max_lt, lt_min] at this
          have c1 := bd_mm m P Q k hk
          have c2 := bd_mm m P Q _ (nxl_of (by omega) hk)
          have d1 := bd_mm n X Y i hi
          have d2 := bd_mm n X Y _ (nxl_of (by omega) hi)
          omega
    rw [e, Bool.and_false]
end
end Go.Proofs.YtfobmlgpjhghdaaGreatDoor
namespace Go.Proofs.YtfobmlgpjhghdaaGreatDoor
set_option linter.unusedVariables false
set_option linter.unusedSimpArgs false
open Go.ChangeShapes Go.WideShapes Go.ChangeAt Go.RowKit
def mbD (k : Int) (n : Nat) (X Y : Nat → Int) (lx ly hx hy : Int) : Bool := if k = 4 then rmD n X Y lx ly hx hy else meV (X 0) (oLy k Y) (oHx k X Y) (oHy k Y) lx ly hx hy
end Go.Proofs.YtfobmlgpjhghdaaGreatDoor
namespace Go.Proofs.YtfobmlgpjhghdaaGreatDoor
set_option linter.unusedVariables false
set_option linter.unusedSimpArgs false
open Go.ChangeShapes Go.WideShapes Go.ChangeAt Go.RowKit
def tcA (k : Int) (n : Nat) (X Y : Nat → Int) (j : Int) (m : Nat) (P Q : Nat → Int) : Bool :=
  if j = 4 then (if k = 4 then rgV n X Y m P Q else rmV m P Q (X 0) (oLy k Y) (oHx k X Y) (oHy k Y))
  else (if k = 4 then rmV n X Y (P 0) (oLy j Q) (oHx j P Q) (oHy j Q) else meV (X 0) (oLy k Y) (oHx k X Y) (oHy k Y) (P 0) (oLy j Q) (oHx j P Q) (oHy j Q))
section
variable {k j : Int} {n m : Nat} {X Y P Q : Nat → Int} {v u : Value}
set_option maxHeartbeats 4000000 in
set_option maxRecDepth 100000 in
theorem c_MeetAny (W : World) (h : Pts W v n X Y) (hu : Pts W u m P Q) (hc : objC k n X Y = 0) (hd : objC j m P Q = 0) :
    Calls Tryz.prog 49 #[.agg #[.int .i64 k, v], .agg #[.int .i64 j, u]] W fun e w' => e = .returned (.bool (tcA k n X Y j m P Q)) ∧ Gr W w' := by
  unfold tcA
  by_cases j4 : j = 4
  · rw [if_pos j4]
    have A1 : ∀ w, Gr W w → Calls Tryz.prog 69 #[.agg #[.int .i64 k, v], u] w fun e w' => e = .returned (.bool (if k = 4 then rgV n X Y m P Q else rmV m P Q (X 0) (oLy k Y) (oHx k X Y) (oHy k Y))) ∧ Gr w w' := fun w g => by
      subst j4
      rw [objC_4] at hd
      by_cases k4 : k = 4
      · subst k4
        rw [if_pos rfl]
        rw [objC_4] at hc
        exact c_meetsRingA w (pts_gr h g) hc (pts_gr hu g) hd
      · rw [if_neg k4]
        exact c_meetsRingB w (bl_of (pts_gr h g) hc k4).1 (pts_gr hu g) hd
    generalize (if k = 4 then rgV n X Y m P Q else rmV m P Q (X 0) (oLy k Y) (oHx k X Y) (oHy k Y)) = z at A1 ⊢
    subst j4
    obtain ⟨ad, cap, _, _, rfl, -⟩ := h
    obtain ⟨bd, bcap, _, _, rfl, -⟩ := hu
    have H1 := Lib.hid A1
    clear A1
    clear hc hd
    go_enter Tryz.func49, Tryz.ntmps49
    go_wp2_with fail
    go_at_call 69
    refine ((H1.out _ (by go_grown))).mono ?_
    rintro e w1 ⟨rfl, hw1⟩
    have gw1 : Gr W w1 := Gr.trans (by go_grown) hw1
    clear hw1
    go_wp2_with fail
    go_ret
    exact ⟨rfl, gw1⟩
  · rw [if_neg j4]
    have b4 : (j == 4) = false := by simp; omega
    have A2 : ∀ w, Gr W w → Calls Tryz.prog 36 #[.agg #[.int .i64 j, u]] w fun e w' => e = .returned (.agg #[.int .i64 (P 0), .int .i64 (oLy j Q), .int .i64 (oHx j P Q), .int .i64 (oHy j Q)]) ∧ Gr w w' := (bl_of hu hd j4).1.2.2
    generalize P 0 = m1 at A2 ⊢
    generalize oLy j Q = m2 at A2 ⊢
    generalize oHx j P Q = m3 at A2 ⊢
    generalize oHy j Q = m4 at A2 ⊢
    have A1 : ∀ w, Gr W w → Calls Tryz.prog 68 #[.agg #[.int .i64 k, v], .agg #[.int .i64 m1, .int .i64 m2, .int .i64 m3, .int .i64 m4]] w fun e w' => e = .returned (.bool (if k = 4 then rmV n X Y m1 m2 m3 m4 else meV (X 0) (oLy k Y) (oHx k X Y) (oHy k Y) m1 m2 m3 m4)) ∧ Gr w w' := fun w g => by
      by_cases k4 : k = 4
      · subst k4
        rw [if_pos rfl]
        rw [objC_4] at hc
        exact c_meetsBoxA m1 m2 m3 m4 w (pts_gr h g) hc
      · rw [if_neg k4]
        exact c_meetsBoxB m1 m2 m3 m4 w (bl_of (pts_gr h g) hc k4).1
    generalize (if k = 4 then rmV n X Y m1 m2 m3 m4 else meV (X 0) (oLy k Y) (oHx k X Y) (oHy k Y) m1 m2 m3 m4) = z at A1 ⊢
    obtain ⟨ad, cap, _, _, rfl, -⟩ := h
    obtain ⟨bd, bcap, _, _, rfl, -⟩ := hu
    have H1 := Lib.hid A1
    have H2 := Lib.hid A2
    clear A1 A2
    clear hc hd j4
    go_enter Tryz.func49, Tryz.ntmps49
    go_wp2_with fail
    go_wp2_with fail
    refine wp_region_spread (by kernel_rfl) (by kernel_rfl) ?_
    try simp only [List.append]
    repeat (first | go_big_quiet_skip | (go_big_quiet_want; go_big_quiet_op; (first | go_big_quiet_on | (apply Exists.intro; refine ⟨fun _ => ?_, ?_⟩; (· (first | (go_at_call 36; first | ((with_reducible refine ((H2.out _ (Gr.trans (by go_grown) (gr_spread _ _)))).mono ?_); rintro e w' ⟨rfl, hg⟩; exact ⟨rfl, spread_gr hg⟩)) | (go_at_call 68; first | ((with_reducible refine ((H1.out _ (Gr.trans (by go_grown) (gr_spread _ _)))).mono ?_); rintro e w' ⟨rfl, hg⟩; exact ⟨rfl, spread_gr hg⟩)))); go_big_quiet_on))))
    refine wpQuiet_nil ?_
    intro w1 hhw1
    have hw1 := Hd.gr_of_spread hhw1
    have gw1 : Gr W w1 := Gr.trans (by go_grown) hw1
    clear hw1 hhw1
    go_wp2_with fail
    go_ret
    exact ⟨rfl, by have gg := gw1; have gs := gg.size; go_grown⟩
end
section
variable {k j : Int}
set_option maxHeartbeats 4000000 in
set_option maxRecDepth 100000 in
theorem touch_core (ad bd : Option Addr) (n cap m bcap c d : Nat) (z : Bool) (W : World) (hE : ErrT W)
    (A1 : ∀ w, Gr W w → Calls Tryz.prog 34 #[.agg #[.int .i64 k, .slice ad n cap]] w fun e w' => ∃ x, e = .returned x ∧ WErr objectS w' x k c ∧ Gr w w')
    (A2 : ∀ w, Gr W w → Calls Tryz.prog 34 #[.agg #[.int .i64 j, .slice bd m bcap]] w fun e w' => ∃ x, e = .returned x ∧ WErr objectS w' x j d ∧ Gr w w')
    (A3 : c = 0 → d = 0 → ∀ w, Gr W w → Calls Tryz.prog 49 #[.agg #[.int .i64 k, .slice ad n cap], .agg #[.int .i64 j, .slice bd m bcap]] w fun e w' => e = .returned (.bool z) ∧ Gr w w') :
    Calls Tryz.prog 17 #[.agg #[.int .i64 k, .slice ad n cap], .agg #[.int .i64 j, .slice bd m bcap]] W fun e w' => e = .returned (.bool (decide (c = 0) && decide (d = 0) && z)) ∧ Gr W w' := by
  have B1 : ∀ w, Gr W w → Calls Tryz.prog 34 #[.agg #[.int .i64 k, .slice ad n cap]] w fun e w' => ∃ x, e = .returned x ∧ (NF x ∧ (x = .nilIface ↔ c = 0)) ∧ Gr w w' := fun w g => (A1 w g).mono (by
    rintro e w' ⟨x, rfl, hx, g'⟩
    exact ⟨x, rfl, werr_nf hx, g'⟩)
  have B2 : ∀ w, Gr W w → Calls Tryz.prog 34 #[.agg #[.int .i64 j, .slice bd m bcap]] w fun e w' => ∃ x, e = .returned x ∧ (NF x ∧ (x = .nilIface ↔ d = 0)) ∧ Gr w w' := fun w g => (A2 w g).mono (by
    rintro e w' ⟨x, rfl, hx, g'⟩
    exact ⟨x, rfl, werr_nf hx, g'⟩)
  have B4 : ∀ (w : World) (D : Nat) (x y : Value) (q : Bool), Gr W w → w.cell? ⟨D, 0, none⟩ = some x → w.cell? ⟨D, 1, none⟩ = some y → NF x → NF y → (q = true ↔ x = .nilIface ∧ y = .nilIface) → Calls Tryz.prog 39 #[.slice (some ⟨D, 0, none⟩) 2 2] w fun e w' => e = .returned (.bool q) ∧ Gr w w' := fun w D x y q g h0 h1 n0 n1 hq =>
    c_allowed (D := D) (n := 2) (cap := 2) (e := fun k => if k = 0 then x else y) w (errT_gr hE g) (by omega) (fun k hk => by match k, hk with | 0, _ => exact h0 | 1, _ => exact h1) (fun k hk => by match k, hk with | 0, _ => exact n0 | 1, _ => exact n1) (World.block_lt_of_cell? _ _ h0) (Nat.le_refl _) q (by
      rw [hq]
      constructor
      · rintro ⟨a, b⟩ k hk
        match k, hk with
        | 0, _ => exact a
        | 1, _ => exact b
      · intro h
        exact ⟨h 0 (by omega), h 1 (by omega)⟩)
  clear A1 A2 hE
  by_cases hc : c = 0
  · rw [decide_eq_true hc, Bool.true_and]
    by_cases hd : d = 0
    · rw [decide_eq_true hd, Bool.true_and]
      have C3 := A3 hc hd
      have C1 : ∀ w, Gr W w → Calls Tryz.prog 34 #[.agg #[.int .i64 k, .slice ad n cap]] w fun e w' => e = .returned .nilIface ∧ Gr w w' := fun w g => (B1 w g).mono (by
        rintro e w' ⟨x, rfl, ⟨-, hx⟩, g'⟩
        obtain rfl := hx.2 hc
        exact ⟨rfl, g'⟩)
      have C2 : ∀ w, Gr W w → Calls Tryz.prog 34 #[.agg #[.int .i64 j, .slice bd m bcap]] w fun e w' => e = .returned .nilIface ∧ Gr w w' := fun w g => (B2 w g).mono (by
        rintro e w' ⟨x, rfl, ⟨-, hx⟩, g'⟩
        obtain rfl := hx.2 hd
        exact ⟨rfl, g'⟩)
      have H1 := Lib.hid C1
      have H2 := Lib.hid C2
      have H3 := Lib.hid C3
      have H4 := Lib.hid B4
      clear C1 C2 C3 B4
      clear A3 B1 B2
      go_enter Tryz.func17, Tryz.ntmps17
      go_wp2_with fail
      try simp only [List.append]
      refine Od.wp_region_ord [(0, false), (2, false), (1, true), (3, true), (4, true), (5, true), (6, false), (7, false), (8, false), (9, true), (10, false), (11, false)] (by kernel_rfl) (by kernel_rfl) ?_
      intro w0 hw0 KQ hKQ
      have cw0_0_0 := ci hw0 (W.heap.size) 0 k (by go_simp)
      have cw0_0_1 := cg hw0 (W.heap.size) 1 (.slice ad n cap) (by go_simp)
      have cw0_1_0 := ci hw0 (W.heap.size + 1) 0 j (by go_simp)
      have cw0_1_1 := cg hw0 (W.heap.size + 1) 1 (.slice bd m bcap) (by go_simp)
      have gw0 : Gr W w0 := Gr.trans (by go_grown) hw0
      skip
      clear hw0
      repeat (first | (refine Od.wpO_skip (by simp only [List.getElem?_toArray, List.getElem?_cons_succ, List.getElem?_cons_zero] <;> rfl) rfl ?_; simp only [Act.put, List.setIfInBounds_toArray, List.set_cons_zero, List.set_cons_succ]) | (refine Od.wpO_pure (by simp only [List.getElem?_toArray, List.getElem?_cons_succ, List.getElem?_cons_zero] <;> rfl) rfl ?_; apply Exists.intro; refine ⟨?_, ?_⟩; (· intro wx gx; obtain ⟨mx, rfl⟩ := spread_of_gr gx; clear gx; all_goals (apply Od.pAt_of_quiet; intro K hK; go_big_quiet_op; first | exact hK _ rfl | (apply Exists.intro; refine ⟨fun _ => ?_, ?_⟩; (· fail); exact hK _ rfl))); try simp only [Act.put, List.setIfInBounds_toArray, List.set_cons_zero, List.set_cons_succ]))
      refine Od.wpO_call (by simp only [List.getElem?_toArray, List.getElem?_cons_succ, List.getElem?_cons_zero] <;> rfl) rfl ?_
      intro QS hQS
      go_wp2_with fail
      go_at_call 34
      (with_reducible refine ((H1.out _ gw0)).mono ?_)
      rintro e w1 ⟨rfl, hw1⟩
      go_wp2_with fail
      apply Exists.intro
      refine ⟨?_, hw1, ?_⟩
      · simp only [Act.put, List.setIfInBounds_toArray, List.set_cons_zero, List.set_cons_succ]; rfl
      have cw1_0_0 := ci hw1 (W.heap.size) 0 k (by go_simp)
      have cw1_0_1 := cg hw1 (W.heap.size) 1 (.slice ad n cap) (by go_simp)
      have cw1_1_0 := ci hw1 (W.heap.size + 1) 0 j (by go_simp)
      have cw1_1_1 := cg hw1 (W.heap.size + 1) 1 (.slice bd m bcap) (by go_simp)
      have gw1 : Gr W w1 := Gr.trans (by have gg := gw0; have gs := gg.size; go_grown) hw1
      clear gw0 cw0_0_0 cw0_0_1 cw0_1_0 cw0_1_1
      clear hw1
      try simp only [Act.put, List.setIfInBounds_toArray, List.set_cons_zero, List.set_cons_succ]
      repeat (first | (refine Od.wpO_skip (by simp only [List.getElem?_toArray, List.getElem?_cons_succ, List.getElem?_cons_zero] <;> rfl) rfl ?_; simp only [Act.put, List.setIfInBounds_toArray, List.set_cons_zero, List.set_cons_succ]) | (refine Od.wpO_pure (by simp only [List.getElem?_toArray, List.getElem?_cons_succ, List.getElem?_cons_zero] <;> rfl) rfl ?_; apply Exists.intro; refine ⟨?_, ?_⟩; (· intro wx gx; obtain ⟨mx, rfl⟩ := spread_of_gr gx; clear gx; all_goals (apply Od.pAt_of_quiet; intro K hK; go_big_quiet_op; first | exact hK _ rfl | (apply Exists.intro; refine ⟨fun _ => ?_, ?_⟩; (· fail); exact hK _ rfl))); try simp only [Act.put, List.setIfInBounds_toArray, List.set_cons_zero, List.set_cons_succ]))
      refine Od.wpO_call (by simp only [List.getElem?_toArray, List.getElem?_cons_succ, List.getElem?_cons_zero] <;> rfl) rfl ?_
      intro QS hQS
      go_wp2_with fail
      go_at_call 34
      (with_reducible refine ((H2.out _ gw1)).mono ?_)
      rintro e w2 ⟨rfl, hw2⟩
      go_wp2_with fail
      apply Exists.intro
      refine ⟨?_, hw2, ?_⟩
      · simp only [Act.put, List.setIfInBounds_toArray, List.set_cons_zero, List.set_cons_succ]; rfl
      have cw2_0_0 := ci hw2 (W.heap.size) 0 k (by go_simp)
      have cw2_0_1 := cg hw2 (W.heap.size) 1 (.slice ad n cap) (by go_simp)
      have zw2_0 := zb cw2_0_0
      have cw2_1_0 := ci hw2 (W.heap.size + 1) 0 j (by go_simp)
      have cw2_1_1 := cg hw2 (W.heap.size + 1) 1 (.slice bd m bcap) (by go_simp)
      have zw2_1 := zb cw2_1_0
      have gw2 : Gr W w2 := Gr.trans (by have gg := gw1; have gs := gg.size; go_grown) hw2
      clear gw1 cw1_0_0 cw1_0_1 cw1_1_0 cw1_1_1
      clear hw2
      try simp only [Act.put, List.setIfInBounds_toArray, List.set_cons_zero, List.set_cons_succ]
      repeat (first | (refine Od.wpO_skip (by simp only [List.getElem?_toArray, List.getElem?_cons_succ, List.getElem?_cons_zero] <;> rfl) rfl ?_; simp only [Act.put, List.setIfInBounds_toArray, List.set_cons_zero, List.set_cons_succ]) | (refine Od.wpO_pure (by simp only [List.getElem?_toArray, List.getElem?_cons_succ, List.getElem?_cons_zero] <;> rfl) rfl ?_; apply Exists.intro; refine ⟨?_, ?_⟩; (· intro wx gx; obtain ⟨mx, rfl⟩ := spread_of_gr gx; clear gx; all_goals (apply Od.pAt_of_quiet; intro K hK; go_big_quiet_op; first | exact hK _ rfl | (apply Exists.intro; refine ⟨fun _ => ?_, ?_⟩; (· fail); exact hK _ rfl))); try simp only [Act.put, List.setIfInBounds_toArray, List.set_cons_zero, List.set_cons_succ]))
      refine Od.wpO_call (by simp only [List.getElem?_toArray, List.getElem?_cons_succ, List.getElem?_cons_zero] <;> rfl) rfl ?_
      intro QS hQS
      go_wp2_with fail
      first | (apply Exists.intro; refine ⟨?_, (by go_grown), ?_⟩; (· simp only [Act.put, List.setIfInBounds_toArray, List.set_cons_zero, List.set_cons_succ]; rfl)) | (refine ⟨(by go_grown), ?_⟩)
      generalize hhw3 : (w2.alloc (.cells #[.nilIface, .nilIface] 34)) = w3
      have hw3 : Gr w2 w3 := by subst hhw3; go_grown
      have cw3_0_0 : w3.cell? ⟨W.heap.size, 0, none⟩ = some (.int .i64 k) := by subst hhw3; go_simp
      have cw3_0_1 : w3.cell? ⟨W.heap.size, 1, none⟩ = some (.slice ad n cap) := by subst hhw3; go_simp
      have zw3_0 := zb cw3_0_0
      have cw3_1_0 : w3.cell? ⟨W.heap.size + 1, 0, none⟩ = some (.int .i64 j) := by subst hhw3; go_simp
      have cw3_1_1 : w3.cell? ⟨W.heap.size + 1, 1, none⟩ = some (.slice bd m bcap) := by subst hhw3; go_simp
      have zw3_1 := zb cw3_1_0
      have cw3_2_0 : w3.cell? ⟨w2.heap.size, 0, none⟩ = some (.nilIface) := by subst hhw3; go_simp
      have cw3_2_1 : w3.cell? ⟨w2.heap.size, 1, none⟩ = some (.nilIface) := by subst hhw3; go_simp
      have gw3 : Gr W w3 := Gr.trans (by have gg := gw2; have gs := gg.size; go_grown) hw3
      clear hhw3 hw3 gw2 zw2_0 cw2_0_0 cw2_0_1 zw2_1 cw2_1_0 cw2_1_1
      try simp only [Act.put, List.setIfInBounds_toArray, List.set_cons_zero, List.set_cons_succ]
      repeat (first | (refine Od.wpO_skip (by simp only [List.getElem?_toArray, List.getElem?_cons_succ, List.getElem?_cons_zero] <;> rfl) rfl ?_; simp only [Act.put, List.setIfInBounds_toArray, List.set_cons_zero, List.set_cons_succ]) | (refine Od.wpO_pure (by simp only [List.getElem?_toArray, List.getElem?_cons_succ, List.getElem?_cons_zero] <;> rfl) rfl ?_; apply Exists.intro; refine ⟨?_, ?_⟩; (· intro wx gx; obtain ⟨mx, rfl⟩ := spread_of_gr gx; clear gx; all_goals (apply Od.pAt_of_quiet; intro K hK; go_big_quiet_op; first | exact hK _ rfl | (apply Exists.intro; refine ⟨fun _ => ?_, ?_⟩; (· fail); exact hK _ rfl))); try simp only [Act.put, List.setIfInBounds_toArray, List.set_cons_zero, List.set_cons_succ]))
      refine Od.wpO_call (by simp only [List.getElem?_toArray, List.getElem?_cons_succ, List.getElem?_cons_zero] <;> rfl) rfl ?_
      intro QS hQS
      go_wp2_with fail
      go_at_call 39
      (with_reducible refine ((H4.out _ _ _ _ true gw3 cw3_2_0 cw3_2_1 nf_nil nf_nil (by simp))).mono ?_)
      rintro e w4 ⟨rfl, hw4⟩
      go_wp2_with fail
      apply Exists.intro
      refine ⟨?_, hw4, ?_⟩
      · simp only [Act.put, List.setIfInBounds_toArray, List.set_cons_zero, List.set_cons_succ]; rfl
      have cw4_0_0 := ci hw4 (W.heap.size) 0 k (by go_simp)
      have cw4_0_1 := cg hw4 (W.heap.size) 1 (.slice ad n cap) (by go_simp)
      have cw4_1_0 := ci hw4 (W.heap.size + 1) 0 j (by go_simp)
      have cw4_1_1 := cg hw4 (W.heap.size + 1) 1 (.slice bd m bcap) (by go_simp)
      have gw4 : Gr W w4 := Gr.trans (by have gg := gw3; have gs := gg.size; go_grown) hw4
      clear gw3 zw3_0 cw3_0_0 cw3_0_1 zw3_1 cw3_1_0 cw3_1_1 cw3_2_0 cw3_2_1
      clear hw4
      try simp only [Act.put, List.setIfInBounds_toArray, List.set_cons_zero, List.set_cons_succ]
      repeat (first | (refine Od.wpO_skip (by simp only [List.getElem?_toArray, List.getElem?_cons_succ, List.getElem?_cons_zero] <;> rfl) rfl ?_; simp only [Act.put, List.setIfInBounds_toArray, List.set_cons_zero, List.set_cons_succ]) | (refine Od.wpO_pure (by simp only [List.getElem?_toArray, List.getElem?_cons_succ, List.getElem?_cons_zero] <;> rfl) rfl ?_; apply Exists.intro; refine ⟨?_, ?_⟩; (· intro wx gx; obtain ⟨mx, rfl⟩ := spread_of_gr gx; clear gx; all_goals (apply Od.pAt_of_quiet; intro K hK; go_big_quiet_op; first | exact hK _ rfl | (apply Exists.intro; refine ⟨fun _ => ?_, ?_⟩; (· fail); exact hK _ rfl))); try simp only [Act.put, List.setIfInBounds_toArray, List.set_cons_zero, List.set_cons_succ]))
      refine Od.wpO_call (by simp only [List.getElem?_toArray, List.getElem?_cons_succ, List.getElem?_cons_zero] <;> rfl) rfl ?_
      intro QS hQS
      go_wp2_with fail
      go_at_call 49
      (with_reducible refine ((H3.out _ gw4)).mono ?_)
      rintro e w5 ⟨rfl, hw5⟩
      go_wp2_with fail
      apply Exists.intro
      refine ⟨?_, hw5, ?_⟩
      · simp only [Act.put, List.setIfInBounds_toArray, List.set_cons_zero, List.set_cons_succ]; rfl
      have gw5 : Gr W w5 := Gr.trans (by have gg := gw4; have gs := gg.size; go_grown) hw5
      clear gw4 cw4_0_0 cw4_0_1 cw4_1_0 cw4_1_1
      clear hw5
      try simp only [Act.put, List.setIfInBounds_toArray, List.set_cons_zero, List.set_cons_succ]
      repeat (first | (refine Od.wpO_skip (by simp only [List.getElem?_toArray, List.getElem?_cons_succ, List.getElem?_cons_zero] <;> rfl) rfl ?_; simp only [Act.put, List.setIfInBounds_toArray, List.set_cons_zero, List.set_cons_succ]) | (refine Od.wpO_pure (by simp only [List.getElem?_toArray, List.getElem?_cons_succ, List.getElem?_cons_zero] <;> rfl) rfl ?_; apply Exists.intro; refine ⟨?_, ?_⟩; (· intro wx gx; obtain ⟨mx, rfl⟩ := spread_of_gr gx; clear gx; all_goals (apply Od.pAt_of_quiet; intro K hK; go_big_quiet_op; first | exact hK _ rfl | (apply Exists.intro; refine ⟨fun _ => ?_, ?_⟩; (· fail); exact hK _ rfl))); try simp only [Act.put, List.setIfInBounds_toArray, List.set_cons_zero, List.set_cons_succ]))
      refine Od.wpO_nil (hKQ _ _ ?_)
      clear hKQ KQ
      go_wp2_with fail
      go_ret
      exact ⟨rfl, gw5⟩
    · rw [decide_eq_false hd, Bool.false_and]
      have C1 : ∀ w, Gr W w → Calls Tryz.prog 34 #[.agg #[.int .i64 k, .slice ad n cap]] w fun e w' => e = .returned .nilIface ∧ Gr w w' := fun w g => (B1 w g).mono (by
        rintro e w' ⟨x, rfl, ⟨-, hx⟩, g'⟩
        obtain rfl := hx.2 hc
        exact ⟨rfl, g'⟩)
      have C2 : ∀ w, Gr W w → Calls Tryz.prog 34 #[.agg #[.int .i64 j, .slice bd m bcap]] w fun e w' => ∃ B, e = .returned (.iface 84 (.pointer (some ⟨B, 0, none⟩))) ∧ Gr w w' := fun w g => (B2 w g).mono (by
        rintro e w' ⟨x, rfl, ⟨hn, hx⟩, g'⟩
        rcases hn with rfl | ⟨B, rfl⟩
        · exact absurd (hx.1 rfl) hd
        · exact ⟨B, rfl, g'⟩)
      have H1 := Lib.hid C1
      have H2 := Lib.hid C2
      have H4 := Lib.hid B4
      clear C1 C2 B4
      clear A3 B1 B2
      go_enter Tryz.func17, Tryz.ntmps17
      go_wp2_with fail
      try simp only [List.append]
      refine Od.wp_region_ord [(0, false), (2, false), (1, true), (3, true), (4, true), (5, true), (6, false), (7, false), (8, false), (9, true), (10, false), (11, false)] (by kernel_rfl) (by kernel_rfl) ?_
      intro w0 hw0 KQ hKQ
      have cw0_0_0 := ci hw0 (W.heap.size) 0 k (by go_simp)
      have cw0_0_1 := cg hw0 (W.heap.size) 1 (.slice ad n cap) (by go_simp)
      have cw0_1_0 := ci hw0 (W.heap.size + 1) 0 j (by go_simp)
      have cw0_1_1 := cg hw0 (W.heap.size + 1) 1 (.slice bd m bcap) (by go_simp)
      have gw0 : Gr W w0 := Gr.trans (by go_grown) hw0
      skip
      clear hw0
      repeat (first | (refine Od.wpO_skip (by simp only [List.getElem?_toArray, List.getElem?_cons_succ, List.getElem?_cons_zero] <;> rfl) rfl ?_; simp only [Act.put, List.setIfInBounds_toArray, List.set_cons_zero, List.set_cons_succ]) | (refine Od.wpO_pure (by simp only [List.getElem?_toArray, List.getElem?_cons_succ, List.getElem?_cons_zero] <;> rfl) rfl ?_; apply Exists.intro; refine ⟨?_, ?_⟩; (· intro wx gx; obtain ⟨mx, rfl⟩ := spread_of_gr gx; clear gx; all_goals (apply Od.pAt_of_quiet; intro K hK; go_big_quiet_op; first | exact hK _ rfl | (apply Exists.intro; refine ⟨fun _ => ?_, ?_⟩; (· fail); exact hK _ rfl))); try simp only [Act.put, List.setIfInBounds_toArray, List.set_cons_zero, List.set_cons_succ]))
      refine Od.wpO_call (by simp only [List.getElem?_toArray, List.getElem?_cons_succ, List.getElem?_cons_zero] <;> rfl) rfl ?_
      intro QS hQS
      go_wp2_with fail
      go_at_call 34
      (with_reducible refine ((H1.out _ gw0)).mono ?_)
      rintro e w1 ⟨rfl, hw1⟩
      go_wp2_with fail
      apply Exists.intro
      refine ⟨?_, hw1, ?_⟩
      · simp only [Act.put, List.setIfInBounds_toArray, List.set_cons_zero, List.set_cons_succ]; rfl
      have cw1_0_0 := ci hw1 (W.heap.size) 0 k (by go_simp)
      have cw1_0_1 := cg hw1 (W.heap.size) 1 (.slice ad n cap) (by go_simp)
      have cw1_1_0 := ci hw1 (W.heap.size + 1) 0 j (by go_simp)
      have cw1_1_1 := cg hw1 (W.heap.size + 1) 1 (.slice bd m bcap) (by go_simp)
      have gw1 : Gr W w1 := Gr.trans (by have gg := gw0; have gs := gg.size; go_grown) hw1
      clear gw0 cw0_0_0 cw0_0_1 cw0_1_0 cw0_1_1
      clear hw1
      try simp only [Act.put, List.setIfInBounds_toArray, List.set_cons_zero, List.set_cons_succ]
      repeat (first | (refine Od.wpO_skip (by simp only [List.getElem?_toArray, List.getElem?_cons_succ, List.getElem?_cons_zero] <;> rfl) rfl ?_; simp only [Act.put, List.setIfInBounds_toArray, List.set_cons_zero, List.set_cons_succ]) | (refine Od.wpO_pure (by simp only [List.getElem?_toArray, List.getElem?_cons_succ, List.getElem?_cons_zero] <;> rfl) rfl ?_; apply Exists.intro; refine ⟨?_, ?_⟩; (· intro wx gx; obtain ⟨mx, rfl⟩ := spread_of_gr gx; clear gx; all_goals (apply Od.pAt_of_quiet; intro K hK; go_big_quiet_op; first | exact hK _ rfl | (apply Exists.intro; refine ⟨fun _ => ?_, ?_⟩; (· fail); exact hK _ rfl))); try simp only [Act.put, List.setIfInBounds_toArray, List.set_cons_zero, List.set_cons_succ]))
      refine Od.wpO_call (by simp only [List.getElem?_toArray, List.getElem?_cons_succ, List.getElem?_cons_zero] <;> rfl) rfl ?_
      intro QS hQS
      go_wp2_with fail
      go_at_call 34
      (with_reducible refine ((H2.out _ gw1)).mono ?_)
      rintro e w2 ⟨B2, rfl, hw2⟩
      go_wp2_with fail
      apply Exists.intro
      refine ⟨?_, hw2, ?_⟩
      · simp only [Act.put, List.setIfInBounds_toArray, List.set_cons_zero, List.set_cons_succ]; rfl
      have cw2_0_0 := ci hw2 (W.heap.size) 0 k (by go_simp)
      have cw2_0_1 := cg hw2 (W.heap.size) 1 (.slice ad n cap) (by go_simp)
      have zw2_0 := zb cw2_0_0
      have cw2_1_0 := ci hw2 (W.heap.size + 1) 0 j (by go_simp)
      have cw2_1_1 := cg hw2 (W.heap.size + 1) 1 (.slice bd m bcap) (by go_simp)
      have zw2_1 := zb cw2_1_0
      have gw2 : Gr W w2 := Gr.trans (by have gg := gw1; have gs := gg.size; go_grown) hw2
      clear gw1 cw1_0_0 cw1_0_1 cw1_1_0 cw1_1_1
      clear hw2
      try simp only [Act.put, List.setIfInBounds_toArray, List.set_cons_zero, List.set_cons_succ]
      repeat (first | (refine Od.wpO_skip (by simp only [List.getElem?_toArray, List.getElem?_cons_succ, List.getElem?_cons_zero] <;> rfl) rfl ?_; simp only [Act.put, List.setIfInBounds_toArray, List.set_cons_zero, List.set_cons_succ]) | (refine Od.wpO_pure (by simp only [List.getElem?_toArray, List.getElem?_cons_succ, List.getElem?_cons_zero] <;> rfl) rfl ?_; apply Exists.intro; refine ⟨?_, ?_⟩; (· intro wx gx; obtain ⟨mx, rfl⟩ := spread_of_gr gx; clear gx; all_goals (apply Od.pAt_of_quiet; intro K hK; go_big_quiet_op; first | exact hK _ rfl | (apply Exists.intro; refine ⟨fun _ => ?_, ?_⟩; (· fail); exact hK _ rfl))); try simp only [Act.put, List.setIfInBounds_toArray, List.set_cons_zero, List.set_cons_succ]))
      refine Od.wpO_call (by simp only [List.getElem?_toArray, List.getElem?_cons_succ, List.getElem?_cons_zero] <;> rfl) rfl ?_
      intro QS hQS
      go_wp2_with fail
      first | (apply Exists.intro; refine ⟨?_, (by go_grown), ?_⟩; (· simp only [Act.put, List.setIfInBounds_toArray, List.set_cons_zero, List.set_cons_succ]; rfl)) | (refine ⟨(by go_grown), ?_⟩)
      generalize hhw3 : (w2.alloc (.cells #[.nilIface, .iface 84 (.pointer (some ⟨B2, 0, none⟩))] 34)) = w3
      have hw3 : Gr w2 w3 := by subst hhw3; go_grown
      have cw3_0_0 : w3.cell? ⟨W.heap.size, 0, none⟩ = some (.int .i64 k) := by subst hhw3; go_simp
      have cw3_0_1 : w3.cell? ⟨W.heap.size, 1, none⟩ = some (.slice ad n cap) := by subst hhw3; go_simp
      have zw3_0 := zb cw3_0_0
      have cw3_1_0 : w3.cell? ⟨W.heap.size + 1, 0, none⟩ = some (.int .i64 j) := by subst hhw3; go_simp
      have cw3_1_1 : w3.cell? ⟨W.heap.size + 1, 1, none⟩ = some (.slice bd m bcap) := by subst hhw3; go_simp
      have zw3_1 := zb cw3_1_0
      have cw3_2_0 : w3.cell? ⟨w2.heap.size, 0, none⟩ = some (.nilIface) := by subst hhw3; go_simp
      have cw3_2_1 : w3.cell? ⟨w2.heap.size, 1, none⟩ = some (.iface 84 (.pointer (some ⟨B2, 0, none⟩))) := by subst hhw3; go_simp
      have gw3 : Gr W w3 := Gr.trans (by have gg := gw2; have gs := gg.size; go_grown) hw3
      clear hhw3 hw3 gw2 zw2_0 cw2_0_0 cw2_0_1 zw2_1 cw2_1_0 cw2_1_1
      try simp only [Act.put, List.setIfInBounds_toArray, List.set_cons_zero, List.set_cons_succ]
      repeat (first | (refine Od.wpO_skip (by simp only [List.getElem?_toArray, List.getElem?_cons_succ, List.getElem?_cons_zero] <;> rfl) rfl ?_; simp only [Act.put, List.setIfInBounds_toArray, List.set_cons_zero, List.set_cons_succ]) | (refine Od.wpO_pure (by simp only [List.getElem?_toArray, List.getElem?_cons_succ, List.getElem?_cons_zero] <;> rfl) rfl ?_; apply Exists.intro; refine ⟨?_, ?_⟩; (· intro wx gx; obtain ⟨mx, rfl⟩ := spread_of_gr gx; clear gx; all_goals (apply Od.pAt_of_quiet; intro K hK; go_big_quiet_op; first | exact hK _ rfl | (apply Exists.intro; refine ⟨fun _ => ?_, ?_⟩; (· fail); exact hK _ rfl))); try simp only [Act.put, List.setIfInBounds_toArray, List.set_cons_zero, List.set_cons_succ]))
      refine Od.wpO_call (by simp only [List.getElem?_toArray, List.getElem?_cons_succ, List.getElem?_cons_zero] <;> rfl) rfl ?_
      intro QS hQS
      go_wp2_with fail
      go_at_call 39
      (with_reducible refine ((H4.out _ _ _ _ false gw3 cw3_2_0 cw3_2_1 nf_nil (nf_f _) (by simp))).mono ?_)
      rintro e w4 ⟨rfl, hw4⟩
      go_wp2_with fail
      apply Exists.intro
      refine ⟨?_, hw4, ?_⟩
      · simp only [Act.put, List.setIfInBounds_toArray, List.set_cons_zero, List.set_cons_succ]; rfl
      have cw4_0_0 := ci hw4 (W.heap.size) 0 k (by go_simp)
      have cw4_0_1 := cg hw4 (W.heap.size) 1 (.slice ad n cap) (by go_simp)
      have cw4_1_0 := ci hw4 (W.heap.size + 1) 0 j (by go_simp)
      have cw4_1_1 := cg hw4 (W.heap.size + 1) 1 (.slice bd m bcap) (by go_simp)
      have gw4 : Gr W w4 := Gr.trans (by have gg := gw3; have gs := gg.size; go_grown) hw4
      clear gw3 zw3_0 cw3_0_0 cw3_0_1 zw3_1 cw3_1_0 cw3_1_1 cw3_2_0 cw3_2_1
      clear hw4
      try simp only [Act.put, List.setIfInBounds_toArray, List.set_cons_zero, List.set_cons_succ]
      repeat (first | (refine Od.wpO_skip (by simp only [List.getElem?_toArray, List.getElem?_cons_succ, List.getElem?_cons_zero] <;> rfl) rfl ?_; simp only [Act.put, List.setIfInBounds_toArray, List.set_cons_zero, List.set_cons_succ]) | (refine Od.wpO_pure (by simp only [List.getElem?_toArray, List.getElem?_cons_succ, List.getElem?_cons_zero] <;> rfl) rfl ?_; apply Exists.intro; refine ⟨?_, ?_⟩; (· intro wx gx; obtain ⟨mx, rfl⟩ := spread_of_gr gx; clear gx; all_goals (apply Od.pAt_of_quiet; intro K hK; go_big_quiet_op; first | exact hK _ rfl | (apply Exists.intro; refine ⟨fun _ => ?_, ?_⟩; (· fail); exact hK _ rfl))); try simp only [Act.put, List.setIfInBounds_toArray, List.set_cons_zero, List.set_cons_succ]))
      refine Od.wpO_nil (hKQ _ _ ?_)
      clear hKQ KQ
      go_wp2_with fail
      go_ret
      exact ⟨rfl, gw4⟩
  · rw [decide_eq_false hc, Bool.false_and, Bool.false_and]
    have C1 : ∀ w, Gr W w → Calls Tryz.prog 34 #[.agg #[.int .i64 k, .slice ad n cap]] w fun e w' => ∃ B, e = .returned (.iface 84 (.pointer (some ⟨B, 0, none⟩))) ∧ Gr w w' := fun w g => (B1 w g).mono (by
      rintro e w' ⟨x, rfl, ⟨hn, hx⟩, g'⟩
      rcases hn with rfl | ⟨B, rfl⟩
      · exact absurd (hx.1 rfl) hc
      · exact ⟨B, rfl, g'⟩)
    by_cases hd : d = 0
    · have C2 : ∀ w, Gr W w → Calls Tryz.prog 34 #[.agg #[.int .i64 j, .slice bd m bcap]] w fun e w' => e = .returned .nilIface ∧ Gr w w' := fun w g => (B2 w g).mono (by
        rintro e w' ⟨x, rfl, ⟨-, hx⟩, g'⟩
        obtain rfl := hx.2 hd
        exact ⟨rfl, g'⟩)
      have H1 := Lib.hid C1
      have H2 := Lib.hid C2
      have H4 := Lib.hid B4
      clear C1 C2 B4
      clear A3 B1 B2
      go_enter Tryz.func17, Tryz.ntmps17
      go_wp2_with fail
      try simp only [List.append]
      refine Od.wp_region_ord [(0, false), (2, false), (1, true), (3, true), (4, true), (5, true), (6, false), (7, false), (8, false), (9, true), (10, false), (11, false)] (by kernel_rfl) (by kernel_rfl) ?_
      intro w0 hw0 KQ hKQ
      have cw0_0_0 := ci hw0 (W.heap.size) 0 k (by go_simp)
      have cw0_0_1 := cg hw0 (W.heap.size) 1 (.slice ad n cap) (by go_simp)
      have cw0_1_0 := ci hw0 (W.heap.size + 1) 0 j (by go_simp)
      have cw0_1_1 := cg hw0 (W.heap.size + 1) 1 (.slice bd m bcap) (by go_simp)
      have gw0 : Gr W w0 := Gr.trans (by go_grown) hw0
      skip
      clear hw0
      repeat (first | (refine Od.wpO_skip (by simp only [List.getElem?_toArray, List.getElem?_cons_succ, List.getElem?_cons_zero] <;> rfl) rfl ?_; simp only [Act.put, List.setIfInBounds_toArray, List.set_cons_zero, List.set_cons_succ]) | (refine Od.wpO_pure (by simp only [List.getElem?_toArray, List.getElem?_cons_succ, List.getElem?_cons_zero] <;> rfl) rfl ?_; apply Exists.intro; refine ⟨?_, ?_⟩; (· intro wx gx; obtain ⟨mx, rfl⟩ := spread_of_gr gx; clear gx; all_goals (apply Od.pAt_of_quiet; intro K hK; go_big_quiet_op; first | exact hK _ rfl | (apply Exists.intro; refine ⟨fun _ => ?_, ?_⟩; (· fail); exact hK _ rfl))); try simp only [Act.put, List.setIfInBounds_toArray, List.set_cons_zero, List.set_cons_succ]))
      refine Od.wpO_call (by simp only [List.getElem?_toArray, List.getElem?_cons_succ, List.getElem?_cons_zero] <;> rfl) rfl ?_
      intro QS hQS
      go_wp2_with fail
      go_at_call 34
      (with_reducible refine ((H1.out _ gw0)).mono ?_)
      rintro e w1 ⟨B1, rfl, hw1⟩
      go_wp2_with fail
      apply Exists.intro
      refine ⟨?_, hw1, ?_⟩
      · simp only [Act.put, List.setIfInBounds_toArray, List.set_cons_zero, List.set_cons_succ]; rfl
      have cw1_0_0 := ci hw1 (W.heap.size) 0 k (by go_simp)
      have cw1_0_1 := cg hw1 (W.heap.size) 1 (.slice ad n cap) (by go_simp)
      have cw1_1_0 := ci hw1 (W.heap.size + 1) 0 j (by go_simp)
      have cw1_1_1 := cg hw1 (W.heap.size + 1) 1 (.slice bd m bcap) (by go_simp)
      have gw1 : Gr W w1 := Gr.trans (by have gg := gw0; have gs := gg.size; go_grown) hw1
      clear gw0 cw0_0_0 cw0_0_1 cw0_1_0 cw0_1_1
      clear hw1
      try simp only [Act.put, List.setIfInBounds_toArray, List.set_cons_zero, List.set_cons_succ]
      repeat (first | (refine Od.wpO_skip (by simp only [List.getElem?_toArray, List.getElem?_cons_succ, List.getElem?_cons_zero] <;> rfl) rfl ?_; simp only [Act.put, List.setIfInBounds_toArray, List.set_cons_zero, List.set_cons_succ]) | (refine Od.wpO_pure (by simp only [List.getElem?_toArray, List.getElem?_cons_succ, List.getElem?_cons_zero] <;> rfl) rfl ?_; apply Exists.intro; refine ⟨?_, ?_⟩; (· intro wx gx; obtain ⟨mx, rfl⟩ := spread_of_gr gx; clear gx; all_goals (apply Od.pAt_of_quiet; intro K hK; go_big_quiet_op; first | exact hK _ rfl | (apply Exists.intro; refine ⟨fun _ => ?_, ?_⟩; (· fail); exact hK _ rfl))); try simp only [Act.put, List.setIfInBounds_toArray, List.set_cons_zero, List.set_cons_succ]))
      refine Od.wpO_call (by simp only [List.getElem?_toArray, List.getElem?_cons_succ, List.getElem?_cons_zero] <;> rfl) rfl ?_
      intro QS hQS
      go_wp2_with fail
      go_at_call 34
      (with_reducible refine ((H2.out _ gw1)).mono ?_)
      rintro e w2 ⟨rfl, hw2⟩
      go_wp2_with fail
      apply Exists.intro
      refine ⟨?_, hw2, ?_⟩
      · simp only [Act.put, List.setIfInBounds_toArray, List.set_cons_zero, List.set_cons_succ]; rfl
      have cw2_0_0 := ci hw2 (W.heap.size) 0 k (by go_simp)
      have cw2_0_1 := cg hw2 (W.heap.size) 1 (.slice ad n cap) (by go_simp)
      have zw2_0 := zb cw2_0_0
      have cw2_1_0 := ci hw2 (W.heap.size + 1) 0 j (by go_simp)
      have cw2_1_1 := cg hw2 (W.heap.size + 1) 1 (.slice bd m bcap) (by go_simp)
      have zw2_1 := zb cw2_1_0
      have gw2 : Gr W w2 := Gr.trans (by have gg := gw1; have gs := gg.size; go_grown) hw2
      clear gw1 cw1_0_0 cw1_0_1 cw1_1_0 cw1_1_1
      clear hw2
      try simp only [Act.put, List.setIfInBounds_toArray, List.set_cons_zero, List.set_cons_succ]
      repeat (first | (refine Od.wpO_skip (by simp only [List.getElem?_toArray, List.getElem?_cons_succ, List.getElem?_cons_zero] <;> rfl) rfl ?_; simp only [Act.put, List.setIfInBounds_toArray, List.set_cons_zero, List.set_cons_succ]) | (refine Od.wpO_pure (by simp only [List.getElem?_toArray, List.getElem?_cons_succ, List.getElem?_cons_zero] <;> rfl) rfl ?_; apply Exists.intro; refine ⟨?_, ?_⟩; (· intro wx gx; obtain ⟨mx, rfl⟩ := spread_of_gr gx; clear gx; all_goals (apply Od.pAt_of_quiet; intro K hK; go_big_quiet_op; first | exact hK _ rfl | (apply Exists.intro; refine ⟨fun _ => ?_, ?_⟩; (· fail); exact hK _ rfl))); try simp only [Act.put, List.setIfInBounds_toArray, List.set_cons_zero, List.set_cons_succ]))
      refine Od.wpO_call (by simp only [List.getElem?_toArray, List.getElem?_cons_succ, List.getElem?_cons_zero] <;> rfl) rfl ?_
      intro QS hQS
      go_wp2_with fail
      first | (apply Exists.intro; refine ⟨?_, (by go_grown), ?_⟩; (· simp only [Act.put, List.setIfInBounds_toArray, List.set_cons_zero, List.set_cons_succ]; rfl)) | (refine ⟨(by go_grown), ?_⟩)
      generalize hhw3 : (w2.alloc (.cells #[.iface 84 (.pointer (some ⟨B1, 0, none⟩)), .nilIface] 34)) = w3
      have hw3 : Gr w2 w3 := by subst hhw3; go_grown
      have cw3_0_0 : w3.cell? ⟨W.heap.size, 0, none⟩ = some (.int .i64 k) := by subst hhw3; go_simp
      have cw3_0_1 : w3.cell? ⟨W.heap.size, 1, none⟩ = some (.slice ad n cap) := by subst hhw3; go_simp
      have zw3_0 := zb cw3_0_0
      have cw3_1_0 : w3.cell? ⟨W.heap.size + 1, 0, none⟩ = some (.int .i64 j) := by subst hhw3; go_simp
      have cw3_1_1 : w3.cell? ⟨W.heap.size + 1, 1, none⟩ = some (.slice bd m bcap) := by subst hhw3; go_simp
      have zw3_1 := zb cw3_1_0
      have cw3_2_0 : w3.cell? ⟨w2.heap.size, 0, none⟩ = some (.iface 84 (.pointer (some ⟨B1, 0, none⟩))) := by subst hhw3; go_simp
      have cw3_2_1 : w3.cell? ⟨w2.heap.size, 1, none⟩ = some (.nilIface) := by subst hhw3; go_simp
      have gw3 : Gr W w3 := Gr.trans (by have gg := gw2; have gs := gg.size; go_grown) hw3
      clear hhw3 hw3 gw2 zw2_0 cw2_0_0 cw2_0_1 zw2_1 cw2_1_0 cw2_1_1
      try simp only [Act.put, List.setIfInBounds_toArray, List.set_cons_zero, List.set_cons_succ]
      repeat (first | (refine Od.wpO_skip (by simp only [List.getElem?_toArray, List.getElem?_cons_succ, List.getElem?_cons_zero] <;> rfl) rfl ?_; simp only [Act.put, List.setIfInBounds_toArray, List.set_cons_zero, List.set_cons_succ]) | (refine Od.wpO_pure (by simp only [List.getElem?_toArray, List.getElem?_cons_succ, List.getElem?_cons_zero] <;> rfl) rfl ?_; apply Exists.intro; refine ⟨?_, ?_⟩; (· intro wx gx; obtain ⟨mx, rfl⟩ := spread_of_gr gx; clear gx; all_goals (apply Od.pAt_of_quiet; intro K hK; go_big_quiet_op; first | exact hK _ rfl | (apply Exists.intro; refine ⟨fun _ => ?_, ?_⟩; (· fail); exact hK _ rfl))); try simp only [Act.put, List.setIfInBounds_toArray, List.set_cons_zero, List.set_cons_succ]))
      refine Od.wpO_call (by simp only [List.getElem?_toArray, List.getElem?_cons_succ, List.getElem?_cons_zero] <;> rfl) rfl ?_
      intro QS hQS
      go_wp2_with fail
      go_at_call 39
      (with_reducible refine ((H4.out _ _ _ _ false gw3 cw3_2_0 cw3_2_1 (nf_f _) nf_nil (by simp))).mono ?_)
      rintro e w4 ⟨rfl, hw4⟩
      go_wp2_with fail
      apply Exists.intro
      refine ⟨?_, hw4, ?_⟩
      · simp only [Act.put, List.setIfInBounds_toArray, List.set_cons_zero, List.set_cons_succ]; rfl
      have cw4_0_0 := ci hw4 (W.heap.size) 0 k (by go_simp)
      have cw4_0_1 := cg hw4 (W.heap.size) 1 (.slice ad n cap) (by go_simp)
      have cw4_1_0 := ci hw4 (W.heap.size + 1) 0 j (by go_simp)
      have cw4_1_1 := cg hw4 (W.heap.size + 1) 1 (.slice bd m bcap) (by go_simp)
      have gw4 : Gr W w4 := Gr.trans (by have gg := gw3; have gs := gg.size; go_grown) hw4
      clear gw3 zw3_0 cw3_0_0 cw3_0_1 zw3_1 cw3_1_0 cw3_1_1 cw3_2_0 cw3_2_1
      clear hw4
      try simp only [Act.put, List.setIfInBounds_toArray, List.set_cons_zero, List.set_cons_succ]
      repeat (first | (refine Od.wpO_skip (by simp only [List.getElem?_toArray, List.getElem?_cons_succ, List.getElem?_cons_zero] <;> rfl) rfl ?_; simp only [Act.put, List.setIfInBounds_toArray, List.set_cons_zero, List.set_cons_succ]) | (refine Od.wpO_pure (by simp only [List.getElem?_toArray, List.getElem?_cons_succ, List.getElem?_cons_zero] <;> rfl) rfl ?_; apply Exists.intro; refine ⟨?_, ?_⟩; (· intro wx gx; obtain ⟨mx, rfl⟩ := spread_of_gr gx; clear gx; all_goals (apply Od.pAt_of_quiet; intro K hK; go_big_quiet_op; first | exact hK _ rfl | (apply Exists.intro; refine ⟨fun _ => ?_, ?_⟩; (· fail); exact hK _ rfl))); try simp only [Act.put, List.setIfInBounds_toArray, List.set_cons_zero, List.set_cons_succ]))
      refine Od.wpO_nil (hKQ _ _ ?_)
      clear hKQ KQ
      go_wp2_with fail
      go_ret
      exact ⟨rfl, gw4⟩
    · have C2 : ∀ w, Gr W w → Calls Tryz.prog 34 #[.agg #[.int .i64 j, .slice bd m bcap]] w fun e w' => ∃ B, e = .returned (.iface 84 (.pointer (some ⟨B, 0, none⟩))) ∧ Gr w w' := fun w g => (B2 w g).mono (by
        rintro e w' ⟨x, rfl, ⟨hn, hx⟩, g'⟩
        rcases hn with rfl | ⟨B, rfl⟩
        · exact absurd (hx.1 rfl) hd
        · exact ⟨B, rfl, g'⟩)
      have H1 := Lib.hid C1
      have H2 := Lib.hid C2
      have H4 := Lib.hid B4
      clear C1 C2 B4
      clear A3 B1 B2
      go_enter Tryz.func17, Tryz.ntmps17
      go_wp2_with fail
      try simp only [List.append]
      refine Od.wp_region_ord [(0, false), (2, false), (1, true), (3, true), (4, true), (5, true), (6, false), (7, false), (8, false), (9, true), (10, false), (11, false)] (by kernel_rfl) (by kernel_rfl) ?_
      intro w0 hw0 KQ hKQ
      have cw0_0_0 := ci hw0 (W.heap.size) 0 k (by go_simp)
      have cw0_0_1 := cg hw0 (W.heap.size) 1 (.slice ad n cap) (by go_simp)
      have cw0_1_0 := ci hw0 (W.heap.size + 1) 0 j (by go_simp)
      have cw0_1_1 := cg hw0 (W.heap.size + 1) 1 (.slice bd m bcap) (by go_simp)
      have gw0 : Gr W w0 := Gr.trans (by go_grown) hw0
      skip
      clear hw0
      repeat (first | (refine Od.wpO_skip (by simp only [List.getElem?_toArray, List.getElem?_cons_succ, List.getElem?_cons_zero] <;> rfl) rfl ?_; simp only [Act.put, List.setIfInBounds_toArray, List.set_cons_zero, List.set_cons_succ]) | (refine Od.wpO_pure (by simp only [List.getElem?_toArray, List.getElem?_cons_succ, List.getElem?_cons_zero] <;> rfl) rfl ?_; apply Exists.intro; refine ⟨?_, ?_⟩; (· intro wx gx; obtain ⟨mx, rfl⟩ := spread_of_gr gx; clear gx; all_goals (apply Od.pAt_of_quiet; intro K hK; go_big_quiet_op; first | exact hK _ rfl | (apply Exists.intro; refine ⟨fun _ => ?_, ?_⟩; (· fail); exact hK _ rfl))); try simp only [Act.put, List.setIfInBounds_toArray, List.set_cons_zero, List.set_cons_succ]))
      refine Od.wpO_call (by simp only [List.getElem?_toArray, List.getElem?_cons_succ, List.getElem?_cons_zero] <;> rfl) rfl ?_
      intro QS hQS
      go_wp2_with fail
      go_at_call 34
      (with_reducible refine ((H1.out _ gw0)).mono ?_)
      rintro e w1 ⟨B1, rfl, hw1⟩
      go_wp2_with fail
      apply Exists.intro
      refine ⟨?_, hw1, ?_⟩
      · simp only [Act.put, List.setIfInBounds_toArray, List.set_cons_zero, List.set_cons_succ]; rfl
      have cw1_0_0 := ci hw1 (W.heap.size) 0 k (by go_simp)
      have cw1_0_1 := cg hw1 (W.heap.size) 1 (.slice ad n cap) (by go_simp)
      have cw1_1_0 := ci hw1 (W.heap.size + 1) 0 j (by go_simp)
      have cw1_1_1 := cg hw1 (W.heap.size + 1) 1 (.slice bd m bcap) (by go_simp)
      have gw1 : Gr W w1 := Gr.trans (by have gg := gw0; have gs := gg.size; go_grown) hw1
      clear gw0 cw0_0_0 cw0_0_1 cw0_1_0 cw0_1_1
      clear hw1
      try simp only [Act.put, List.setIfInBounds_toArray, List.set_cons_zero, List.set_cons_succ]
      repeat (first | (refine Od.wpO_skip (by simp only [List.getElem?_toArray, List.getElem?_cons_succ, List.getElem?_cons_zero] <;> rfl) rfl ?_; simp only [Act.put, List.setIfInBounds_toArray, List.set_cons_zero, List.set_cons_succ]) | (refine Od.wpO_pure (by simp only [List.getElem?_toArray, List.getElem?_cons_succ, List.getElem?_cons_zero] <;> rfl) rfl ?_; apply Exists.intro; refine ⟨?_, ?_⟩; (· intro wx gx; obtain ⟨mx, rfl⟩ := spread_of_gr gx; clear gx; all_goals (apply Od.pAt_of_quiet; intro K hK; go_big_quiet_op; first | exact hK _ rfl | (apply Exists.intro; refine ⟨fun _ => ?_, ?_⟩; (· fail); exact hK _ rfl))); try simp only [Act.put, List.setIfInBounds_toArray, List.set_cons_zero, List.set_cons_succ]))
      refine Od.wpO_call (by simp only [List.getElem?_toArray, List.getElem?_cons_succ, List.getElem?_cons_zero] <;> rfl) rfl ?_
      intro QS hQS
      go_wp2_with fail
      go_at_call 34
      (with_reducible refine ((H2.out _ gw1)).mono ?_)
      rintro e w2 ⟨B2, rfl, hw2⟩
      go_wp2_with fail
      apply Exists.intro
      refine ⟨?_, hw2, ?_⟩
      · simp only [Act.put, List.setIfInBounds_toArray, List.set_cons_zero, List.set_cons_succ]; rfl
      have cw2_0_0 := ci hw2 (W.heap.size) 0 k (by go_simp)
      have cw2_0_1 := cg hw2 (W.heap.size) 1 (.slice ad n cap) (by go_simp)
      have zw2_0 := zb cw2_0_0
      have cw2_1_0 := ci hw2 (W.heap.size + 1) 0 j (by go_simp)
      have cw2_1_1 := cg hw2 (W.heap.size + 1) 1 (.slice bd m bcap) (by go_simp)
      have zw2_1 := zb cw2_1_0
      have gw2 : Gr W w2 := Gr.trans (by have gg := gw1; have gs := gg.size; go_grown) hw2
      clear gw1 cw1_0_0 cw1_0_1 cw1_1_0 cw1_1_1
      clear hw2
      try simp only [Act.put, List.setIfInBounds_toArray, List.set_cons_zero, List.set_cons_succ]
      repeat (first | (refine Od.wpO_skip (by simp only [List.getElem?_toArray, List.getElem?_cons_succ, List.getElem?_cons_zero] <;> rfl) rfl ?_; simp only [Act.put, List.setIfInBounds_toArray, List.set_cons_zero, List.set_cons_succ]) | (refine Od.wpO_pure (by simp only [List.getElem?_toArray, List.getElem?_cons_succ, List.getElem?_cons_zero] <;> rfl) rfl ?_; apply Exists.intro; refine ⟨?_, ?_⟩; (· intro wx gx; obtain ⟨mx, rfl⟩ := spread_of_gr gx; clear gx; all_goals (apply Od.pAt_of_quiet; intro K hK; go_big_quiet_op; first | exact hK _ rfl | (apply Exists.intro; refine ⟨fun _ => ?_, ?_⟩; (· fail); exact hK _ rfl))); try simp only [Act.put, List.setIfInBounds_toArray, List.set_cons_zero, List.set_cons_succ]))
      refine Od.wpO_call (by simp only [List.getElem?_toArray, List.getElem?_cons_succ, List.getElem?_cons_zero] <;> rfl) rfl ?_
      intro QS hQS
      go_wp2_with fail
      first | (apply Exists.intro; refine ⟨?_, (by go_grown), ?_⟩; (· simp only [Act.put, List.setIfInBounds_toArray, List.set_cons_zero, List.set_cons_succ]; rfl)) | (refine ⟨(by go_grown), ?_⟩)
      generalize hhw3 : (w2.alloc (.cells #[.iface 84 (.pointer (some ⟨B1, 0, none⟩)), .iface 84 (.pointer (some ⟨B2, 0, none⟩))] 34)) = w3
      have hw3 : Gr w2 w3 := by subst hhw3; go_grown
      have cw3_0_0 : w3.cell? ⟨W.heap.size, 0, none⟩ = some (.int .i64 k) := by subst hhw3; go_simp
      have cw3_0_1 : w3.cell? ⟨W.heap.size, 1, none⟩ = some (.slice ad n cap) := by subst hhw3; go_simp
      have zw3_0 := zb cw3_0_0
      have cw3_1_0 : w3.cell? ⟨W.heap.size + 1, 0, none⟩ = some (.int .i64 j) := by subst hhw3; go_simp
      have cw3_1_1 : w3.cell? ⟨W.heap.size + 1, 1, none⟩ = some (.slice bd m bcap) := by subst hhw3; go_simp
      have zw3_1 := zb cw3_1_0
      have cw3_2_0 : w3.cell? ⟨w2.heap.size, 0, none⟩ = some (.iface 84 (.pointer (some ⟨B1, 0, none⟩))) := by subst hhw3; go_simp
      have cw3_2_1 : w3.cell? ⟨w2.heap.size, 1, none⟩ = some (.iface 84 (.pointer (some ⟨B2, 0, none⟩))) := by subst hhw3; go_simp
      have gw3 : Gr W w3 := Gr.trans (by have gg := gw2; have gs := gg.size; go_grown) hw3
      clear hhw3 hw3 gw2 zw2_0 cw2_0_0 cw2_0_1 zw2_1 cw2_1_0 cw2_1_1
      try simp only [Act.put, List.setIfInBounds_toArray, List.set_cons_zero, List.set_cons_succ]
      repeat (first | (refine Od.wpO_skip (by simp only [List.getElem?_toArray, List.getElem?_cons_succ, List.getElem?_cons_zero] <;> rfl) rfl ?_; simp only [Act.put, List.setIfInBounds_toArray, List.set_cons_zero, List.set_cons_succ]) | (refine Od.wpO_pure (by simp only [List.getElem?_toArray, List.getElem?_cons_succ, List.getElem?_cons_zero] <;> rfl) rfl ?_; apply Exists.intro; refine ⟨?_, ?_⟩; (· intro wx gx; obtain ⟨mx, rfl⟩ := spread_of_gr gx; clear gx; all_goals (apply Od.pAt_of_quiet; intro K hK; go_big_quiet_op; first | exact hK _ rfl | (apply Exists.intro; refine ⟨fun _ => ?_, ?_⟩; (· fail); exact hK _ rfl))); try simp only [Act.put, List.setIfInBounds_toArray, List.set_cons_zero, List.set_cons_succ]))
      refine Od.wpO_call (by simp only [List.getElem?_toArray, List.getElem?_cons_succ, List.getElem?_cons_zero] <;> rfl) rfl ?_
      intro QS hQS
      go_wp2_with fail
      go_at_call 39
      (with_reducible refine ((H4.out _ _ _ _ false gw3 cw3_2_0 cw3_2_1 (nf_f _) (nf_f _) (by simp))).mono ?_)
      rintro e w4 ⟨rfl, hw4⟩
      go_wp2_with fail
      apply Exists.intro
      refine ⟨?_, hw4, ?_⟩
      · simp only [Act.put, List.setIfInBounds_toArray, List.set_cons_zero, List.set_cons_succ]; rfl
      have cw4_0_0 := ci hw4 (W.heap.size) 0 k (by go_simp)
      have cw4_0_1 := cg hw4 (W.heap.size) 1 (.slice ad n cap) (by go_simp)
      have cw4_1_0 := ci hw4 (W.heap.size + 1) 0 j (by go_simp)
      have cw4_1_1 := cg hw4 (W.heap.size + 1) 1 (.slice bd m bcap) (by go_simp)
      have gw4 : Gr W w4 := Gr.trans (by have gg := gw3; have gs := gg.size; go_grown) hw4
      clear gw3 zw3_0 cw3_0_0 cw3_0_1 zw3_1 cw3_1_0 cw3_1_1 cw3_2_0 cw3_2_1
      clear hw4
      try simp only [Act.put, List.setIfInBounds_toArray, List.set_cons_zero, List.set_cons_succ]
      repeat (first | (refine Od.wpO_skip (by simp only [List.getElem?_toArray, List.getElem?_cons_succ, List.getElem?_cons_zero] <;> rfl) rfl ?_; simp only [Act.put, List.setIfInBounds_toArray, List.set_cons_zero, List.set_cons_succ]) | (refine Od.wpO_pure (by simp only [List.getElem?_toArray, List.getElem?_cons_succ, List.getElem?_cons_zero] <;> rfl) rfl ?_; apply Exists.intro; refine ⟨?_, ?_⟩; (· intro wx gx; obtain ⟨mx, rfl⟩ := spread_of_gr gx; clear gx; all_goals (apply Od.pAt_of_quiet; intro K hK; go_big_quiet_op; first | exact hK _ rfl | (apply Exists.intro; refine ⟨fun _ => ?_, ?_⟩; (· fail); exact hK _ rfl))); try simp only [Act.put, List.setIfInBounds_toArray, List.set_cons_zero, List.set_cons_succ]))
      refine Od.wpO_nil (hKQ _ _ ?_)
      clear hKQ KQ
      go_wp2_with fail
      go_ret
      exact ⟨rfl, gw4⟩
end
theorem c_TouchAny {k j : Int} {n m : Nat} {X Y P Q : Nat → Int} {v u : Value} (W : World) (hE : ErrT W) (h : Pts W v n X Y) (hu : Pts W u m P Q) :
    Calls Tryz.prog 17 #[.agg #[.int .i64 k, v], .agg #[.int .i64 j, u]] W fun e w' => e = .returned (.bool (decide (objC k n X Y = 0) && decide (objC j m P Q = 0) && tcA k n X Y j m P Q)) ∧ Gr W w' := by
  have A1 : ∀ w, Gr W w → Calls Tryz.prog 34 #[.agg #[.int .i64 k, v]] w fun e w' => ∃ x, e = .returned x ∧ WErr objectS w' x k (objC k n X Y) ∧ Gr w w' := fun w g => c_relCheck k w (pts_gr h g)
  have A2 : ∀ w, Gr W w → Calls Tryz.prog 34 #[.agg #[.int .i64 j, u]] w fun e w' => ∃ x, e = .returned x ∧ WErr objectS w' x j (objC j m P Q) ∧ Gr w w' := fun w g => c_relCheck j w (pts_gr hu g)
  have A3 : objC k n X Y = 0 → objC j m P Q = 0 → ∀ w, Gr W w → Calls Tryz.prog 49 #[.agg #[.int .i64 k, v], .agg #[.int .i64 j, u]] w fun e w' => e = .returned (.bool (tcA k n X Y j m P Q)) ∧ Gr w w' := fun hc hd w g => c_MeetAny w (pts_gr h g) (pts_gr hu g) hc hd
  obtain ⟨ad, cap, _, _, rfl, -⟩ := h
  obtain ⟨bd, bcap, _, _, rfl, -⟩ := hu
  exact touch_core ad bd n cap m bcap _ _ _ W hE A1 A2 A3
end Go.Proofs.YtfobmlgpjhghdaaGreatDoor
namespace Go.Proofs.YtfobmlgpjhghdaaGreatDoor
set_option linter.unusedVariables false
set_option linter.unusedSimpArgs false
open Go.ChangeShapes Go.WideShapes Go.ChangeAt Go.RowKit
theorem qC_cases {kq a b c d : Int} {m : Nat} {P Q : Nat → Int} (h : qC kq a b c d m P Q = 0) : (kq = 1 ∧ boxB a b c d = true) ∨ (kq = 2 ∧ boxB a b c d = true) ∨ (kq = 3 ∧ nearB a b = true) ∨ (kq = 4 ∧ (Rg.ringC m P Q).1 = 0) := by
  unfold qC at h
  by_cases h1 : kq = 1 ∨ kq = 2
  · rw [if_pos h1] at h
    have hb := boxN_0.1 h
    rcases h1 with h1 | h1
    · exact Or.inl ⟨h1, hb⟩
    · exact Or.inr (Or.inl ⟨h1, hb⟩)
  rw [if_neg h1] at h
  by_cases h3 : kq = 3
  · rw [if_pos h3] at h
    by_cases hn : nearB a b = true
    · exact Or.inr (Or.inr (Or.inl ⟨h3, hn⟩))
    · rw [if_neg hn] at h; cases h
  rw [if_neg h3] at h
  by_cases h4 : kq = 4
  · rw [if_pos h4] at h; exact Or.inr (Or.inr (Or.inr ⟨h4, h⟩))
  rw [if_neg h4] at h
  cases h
end Go.Proofs.YtfobmlgpjhghdaaGreatDoor
namespace Go.Proofs.YtfobmlgpjhghdaaGreatDoor
set_option linter.unusedVariables false
set_option linter.unusedSimpArgs false
open Go.ChangeShapes Go.WideShapes Go.ChangeAt Go.RowKit
def maD (k : Int) (n : Nat) (X Y : Nat → Int) (kq qlx qly qhx qhy : Int) (m : Nat) (P Q : Nat → Int) : Bool :=
  if kq = 1 then mbD k n X Y qlx qly qhx qhy else if kq = 2 then inV (bLx k n X) (bLy k n Y) (bHx k n X Y) (bHy k n Y) qlx qly qhx qhy
  else if kq = 3 then mbD k n X Y qlx qly qlx qly else if k = 4 then rgD n X Y m P Q else rmD m P Q (X 0) (oLy k Y) (oHx k X Y) (oHy k Y)
section
variable {k kq qlx qly qhx qhy : Int} {n m cap bcap : Nat} {ad bd : Option Addr}
section
variable (m1 m2 m3 m4 : Int) (z : Bool) (W : World)
    (A1 : ∀ w, Gr W w → Calls Tryz.prog 11 #[.agg #[.int .i64 k, .slice ad n cap]] w fun e w' => e = .returned (.tuple #[.agg #[.int .i64 m1, .int .i64 m2, .int .i64 m3, .int .i64 m4], .int .i64 0]) ∧ Gr w w')
    (A2 : ∀ w, Gr W w → Calls Tryz.prog 31 #[qryV kq qlx qly qhx qhy (.slice bd m bcap)] w fun e w' => e = .returned (.int .i64 0) ∧ Gr w w')
include A1 A2
end
end
theorem bx_ok {k : Int} {n : Nat} {X Y : Nat → Int} (hc : objC k n X Y = 0) : boxB (bLx k n X) (bLy k n Y) (bHx k n X Y) (bHy k n Y) = true := by
  unfold bLx bLy bHx bHy
  by_cases k4 : k = 4
  · simp only [if_pos k4]
    subst k4
    rw [objC_4] at hc
    exact ring_box hc
  · simp only [if_neg k4]
    exact boxN_0.1 (obj_box hc k4).2.2
theorem pt_box {a b : Int} (h : nearB a b = true) : boxB a b a b = true := by
  rw [boxB_iff]; exact ⟨⟨h, h⟩, Int.le_refl _, Int.le_refl _⟩
theorem ma_doc {k : Int} {n : Nat} {X Y : Nat → Int} {kq qlx qly qhx qhy : Int} {m : Nat} {P Q : Nat → Int} (hc : objC k n X Y = 0) (hd : qC kq qlx qly qhx qhy m P Q = 0) : maA k n X Y kq qlx qly qhx qhy m P Q = maD k n X Y kq qlx qly qhx qhy m P Q := by
  have qc := qC_cases hd
  have bo := bx_ok hc
  unfold maA maD mbD
  by_cases k4 : k = 4
  · simp only [if_pos k4]
    unfold bLx bLy bHx bHy
    simp only [if_pos k4]
    subst k4
    rw [objC_4] at hc
    unfold mpV
    rcases qc with ⟨e, hb⟩ | ⟨e, hb⟩ | ⟨e, hb⟩ | ⟨e, hb⟩
    · subst e; simp only [if_pos]; exact rm_doc hc hb
    · subst e; rfl
    · subst e; exact rm_doc hc (pt_box hb)
    · subst e; exact rg_doc hc hb
  · simp only [if_neg k4]
    unfold bLx bLy bHx bHy at bo ⊢
    simp only [if_neg k4] at bo ⊢
    unfold msV
    rcases qc with ⟨e, hb⟩ | ⟨e, hb⟩ | ⟨e, hb⟩ | ⟨e, hb⟩
    · subst e; rfl
    · subst e; rfl
    · subst e; rfl
    · subst e; exact rm_doc hb bo
end Go.Proofs.YtfobmlgpjhghdaaGreatDoor
namespace Go.Proofs.YtfobmlgpjhghdaaGreatDoor
set_option linter.unusedVariables false
set_option linter.unusedSimpArgs false
theorem bey_nn (lo hi v : Int) : 0 ≤ beyZ lo hi v := by unfold beyZ; split <;> (try split) <;> omega
theorem bey_far {lo hi v u : Int} (h : lo ≤ u ∧ u ≤ hi) : beyZ lo hi v * beyZ lo hi v ≤ (v - u) * (v - u) := by
  have n := bey_nn lo hi v
  rcases Int.le_total u v with g | g
  · have : beyZ lo hi v ≤ v - u := by unfold beyZ; split <;> (try split) <;> omega
    exact Int.mul_le_mul this this n (by omega)
  · have : beyZ lo hi v ≤ u - v := by unfold beyZ; split <;> (try split) <;> omega
    have e : (v - u) * (v - u) = (u - v) * (u - v) := by grind
    rw [e]
    exact Int.mul_le_mul this this n (by omega)
section
variable {n : Nat} {X Y : Nat → Int} {px py : Int}
theorem faD_near (h2 : ∀ k, k < n → nearB (X k) (Y k) = true) (hp : nearB px py = true) {i : Nat} (hi : i < n) : faD n X Y px py i = (sdN (X i) (Y i) (X (Rg.nx1 n i)) (Y (Rg.nx1 n i)) px py, sdD (X i) (Y i) (X (Rg.nx1 n i)) (Y (Rg.nx1 n i)) px py) := by
  unfold faD sdG
  rw [if_pos (by rw [h2 i hi, h2 _ (nxl_of (by omega) hi), hp]; rfl)]
end
end Go.Proofs.YtfobmlgpjhghdaaGreatDoor
namespace Go.Proofs.YtfobmlgpjhghdaaGreatDoor
set_option linter.unusedVariables false
set_option linter.unusedSimpArgs false
open Go.ChangeShapes Go.WideShapes Go.ChangeAt Go.RowKit
def tcD (k : Int) (n : Nat) (X Y : Nat → Int) (j : Int) (m : Nat) (P Q : Nat → Int) : Bool :=
  if k = 4 then (if j = 4 then rgD n X Y m P Q else rmD n X Y (P 0) (oLy j Q) (oHx j P Q) (oHy j Q))
  else (if j = 4 then rmD m P Q (X 0) (oLy k Y) (oHx k X Y) (oHy k Y) else meV (X 0) (oLy k Y) (oHx k X Y) (oHy k Y) (P 0) (oLy j Q) (oHx j P Q) (oHy j Q))
section
variable {k j : Int} {n m : Nat} {X Y P Q : Nat → Int} {v u : Value}
theorem tc_doc (hc : objC k n X Y = 0) (hd : objC j m P Q = 0) : tcA k n X Y j m P Q = tcD k n X Y j m P Q := by
  have bo := bx_ok hc
  have bp := bx_ok hd
  unfold bLx bLy bHx bHy at bo bp
  unfold tcA tcD
  by_cases k4 : k = 4 <;> by_cases j4 : j = 4
  · subst k4 j4
    rw [objC_4] at hc hd
    simp only [if_pos]
    exact rg_doc hc hd
  · subst k4
    rw [objC_4] at hc
    simp only [if_neg j4] at bp
    simp only [if_pos, if_neg j4]
    exact rm_doc hc bp
  · subst j4
    rw [objC_4] at hd
    simp only [if_neg k4] at bo
    simp only [if_pos, if_neg k4]
    exact rm_doc hd bo
  · simp only [if_neg k4, if_neg j4]
end
section
variable {k j : Int} {n m : Nat} {X Y P Q : Nat → Int} {v u : Value}
set_option maxHeartbeats 4000000 in
set_option maxRecDepth 100000 in
theorem c_slEq (r : Bool) (W : World) (hu : Pts W u n X Y) (hv : Pts W v m P Q) (hn : n ≤ 1000000) (hr : r = true ↔ (n = m ∧ ∀ i, i < n → X i = P i ∧ Y i = Q i)) :
    Calls Tryz.prog 50 #[u, v] W fun e w' => e = .returned (.bool r) ∧ Gr W w' := by
  obtain ⟨ad, cap, B, off, rfl, a1, a2, a3, a4⟩ := hu
  obtain ⟨bd, cbp, C, oc, rfl, b1, b2, b3, b4⟩ := hv
  by_cases h : n = m
  · subst h
    have H3 := Lib.hid (And.intro a3 b3)
    have H4 := Lib.hid (And.intro a4 b4)
    have HR := Lib.hid hr
    have hn9 : (n : Int) ≤ 1000000 := by omega
    clear a3 a4 b3 b4 hr
    go_enter Tryz.func50, Tryz.ntmps50
    go_wp2_with fail
    go_loopg [13] n (fun k u wr => ∃ i : Nat, u = .int .i64 i ∧ i ≤ n ∧ k = n - i ∧ Hid (∀ j, j < i → X j = P j ∧ Y j = Q j) ∧ Gr W wr)
    case atStart => exact ⟨0, rfl, Nat.zero_le _, by omega, Lib.hid (fun j hj => absurd hj (by omega)), by go_grown⟩
    case round =>
      obtain ⟨i, rfl, hi, hk, hE, gwr⟩ := hrel
      by_cases hlt : i < n
      · have ti : decide ((i : Int) < (n : Int)) = true := decide_eq_true (by omega)
        have ti2 : decide (i < n) = true := decide_eq_true hlt
        have ti3 : (i : Int) < (n : Int) := by omega
        have hii : (i : Int) ≤ 1000000 := by omega
        have hmm : n - (i + 1) < gk := by omega
        obtain ⟨k0, k1⟩ := H4.out.1 i hlt
        obtain ⟨m0, m1⟩ := H4.out.2 i hlt
        obtain rfl := H3.out.1 (by omega)
        obtain rfl := H3.out.2 (by omega)
        have s0 := cell_gr gwr k0
        have s1 := cell_gr gwr k1
        have r0 := cell_gr gwr m0
        have r1 := cell_gr gwr m1
        have zB := zb s0
        have zC := zb r0
        have E := nePt (X i) (Y i) (P i) (Q i)
        by_cases c : X i = P i ∧ Y i = Q i
        · have hE2 : Hid (∀ j, j < i + 1 → X j = P j ∧ Y j = Q j) := Lib.hid (fun j hj => by
            rcases Nat.lt_or_ge j i with q | q
            · exact hE.out j q
            · obtain rfl : j = i := by omega
              exact c)
          rw [decide_eq_true c.1, decide_eq_true c.2] at E
          generalize X i = x at *
          generalize Y i = y at *
          generalize P i = p at *
          generalize Q i = q at *
          have HE := Lib.hid c
          clear k0 k1 m0 m1 hk c hE
          go_wp2_with fail
          refine wp_region_spread (by kernel_rfl) (by kernel_rfl) ?_
          try simp only [List.append]
          repeat (first | go_big_quiet_skip | (go_big_quiet_want; go_big_quiet_op; (first | go_big_quiet_on | (apply Exists.intro; refine ⟨fun _ => ?_, ?_⟩; (· fail); go_big_quiet_on))))
          refine wpQuiet_nil ?_
          intro w1 hhw1
          have hw1 := Hd.gr_of_spread hhw1
          have gw1 : Gr W w1 := Gr.trans (by have gg := gwr; have gs := gg.size; go_grown) hw1
          clear hw1 hhw1 gwr
          go_wp2_with fail
          go_roundg (n - (i + 1))
          case measure => exact hmm
          case rel => exact ⟨i + 1, by go_num, hlt, rfl, hE2, gw1⟩
        · obtain rfl : r = false := by
            cases r
            · rfl
            · exact absurd ((HR.out.1 rfl).2 i hlt) c
          have E2 : (!(decide (X i = P i) && decide (Y i = Q i))) = true := by
            rw [← Bool.decide_and, decide_eq_false c]; rfl
          rw [E2] at E
          generalize X i = x at *
          generalize Y i = y at *
          generalize P i = p at *
          generalize Q i = q at *
          clear k0 k1 m0 m1 hk c E2 hE
          go_wp2_with fail
          refine wp_region_spread (by kernel_rfl) (by kernel_rfl) ?_
          try simp only [List.append]
          repeat (first | go_big_quiet_skip | (go_big_quiet_want; go_big_quiet_op; (first | go_big_quiet_on | (apply Exists.intro; refine ⟨fun _ => ?_, ?_⟩; (· fail); go_big_quiet_on))))
          refine wpQuiet_nil ?_
          intro w1 hhw1
          have hw1 := Hd.gr_of_spread hhw1
          have gw1 : Gr W w1 := Gr.trans (by have gg := gwr; have gs := gg.size; go_grown) hw1
          clear hw1 hhw1 gwr
          go_wp2_with fail
          go_ret
          exact ⟨rfl, gw1⟩
      · obtain rfl : i = n := by omega
        obtain rfl : r = true := HR.out.2 ⟨trivial, hE.out⟩
        have ti : decide ((i : Int) < (i : Int)) = false := decide_eq_false (by omega)
        have ti2 : decide (i < i) = false := decide_eq_false (by omega)
        clear hk hE
        go_wp2_with fail
        go_ret
        exact ⟨rfl, gwr⟩
  · obtain rfl : r = false := by
      cases r
      · rfl
      · exact absurd (hr.1 rfl).1 h
    have t1 : ((n : Int) != (m : Int)) = true := by simp; omega
    have t2 : (n != m) = true := by simp; omega
    clear a3 a4 b3 b4 hr h
    go_enter Tryz.func50, Tryz.ntmps50
    go_wp2_with fail
    go_ret
    exact ⟨rfl, by go_grown⟩
set_option maxHeartbeats 4000000 in
set_option maxRecDepth 100000 in
theorem c_Same (r : Bool) (W : World) (hu : Pts W u n X Y) (hv : Pts W v m P Q) (hn : n ≤ 1000000) (hr : r = true ↔ (k = j ∧ n = m ∧ ∀ i, i < n → X i = P i ∧ Y i = Q i)) :
    Calls Tryz.prog 19 #[.agg #[.int .i64 k, u], .agg #[.int .i64 j, v]] W fun e w' => e = .returned (.bool r) ∧ Gr W w' := by
  by_cases h : k = j
  · subst h
    have A1 : ∀ w, Gr W w → _ := fun w g => c_slEq r w (pts_gr hu g) (pts_gr hv g) hn (by rw [hr]; simp)
    have t1 : (k == k) = true := by simp
    obtain ⟨ad, cap, _, _, rfl, _⟩ := hu
    obtain ⟨bd, cbp, _, _, rfl, _⟩ := hv
    have H1 := Lib.hid A1
    clear A1
    clear hr
    go_enter Tryz.func19, Tryz.ntmps19
    go_wp2_with fail
    go_at_call 50
    refine ((H1.out _ (by go_grown))).mono ?_
    rintro e w1 ⟨rfl, hw1⟩
    have gw1 : Gr W w1 := Gr.trans (by go_grown) hw1
    clear hw1
    go_wp2_with fail
    go_ret
    exact ⟨rfl, gw1⟩
  · obtain rfl : r = false := by
      cases r
      · rfl
      · exact absurd (hr.1 rfl).1 h
    have t1 : (k == j) = false := by simp; omega
    obtain ⟨ad, cap, _, _, rfl, _⟩ := hu
    obtain ⟨bd, cbp, _, _, rfl, _⟩ := hv
    clear hr h
    go_enter Tryz.func19, Tryz.ntmps19
    go_wp2_with fail
    go_ret
    exact ⟨rfl, by go_grown⟩
end
end Go.Proofs.YtfobmlgpjhghdaaGreatDoor
namespace Go.Proofs.YtfobmlgpjhghdaaGreatDoor
set_option linter.unusedVariables false
set_option linter.unusedSimpArgs false
open Go.ChangeShapes Go.WideShapes Go.ChangeAt Go.RowKit
theorem addr_addO (b off n : Nat) : (⟨b, off, none⟩ : Addr).add n = ⟨b, off + n, none⟩ := by
  unfold Addr.add; split <;> simp_all
section
variable {H : Type} {enc : TypeId × Value → H} {P : Program} {w : World} {base : Nat} {sp : Nat → Bool} {held : Bool} {r : Reach} {b0 : Nat}
theorem spot_cell {a : Addr} {v : Value} (h : w.cell? a = some v) : a.spot = none := by
  unfold World.cell? at h
  split at h
  · split at h
    · cases h
    · rename_i hs; simpa using hs
  · cases h
theorem cells2s {a : Addr} {x0 x1 : Value} (h : w.cells? base a 2 = some [x0, x1]) : w.cell? (a.add 0) = some x0 ∧ w.cell? (a.add 1) = some x1 := by
  unfold World.cells? at h
  split at h
  · rw [show List.range 2 = [0, 1] from rfl] at h
    simp only [List.mapM_cons, List.mapM_nil] at h
    obtain ⟨y0, h0, h⟩ := Option.bind_eq_some_iff.1 h
    obtain ⟨t0, h, e0⟩ := Option.bind_eq_some_iff.1 h
    obtain ⟨y1, h1, h⟩ := Option.bind_eq_some_iff.1 h
    obtain ⟨t1, h, e1⟩ := Option.bind_eq_some_iff.1 h
    cases h
    cases e1
    cases e0
    exact ⟨h0, h1⟩
  · cases h
theorem trod_ptsC {t p u : TypeId} {G0 G1 : Field} {x : Value} {fuel : Nat} {y : DataW H × List MemPlace} (ht : P.underlying t = some (.slice p)) (hp : P.underlying p = some (.struct #[G0, G1])) (hu : P.underlying u = some (.int .i64))
    (hG0 : G0.type = u ∧ G0.offset = 0) (hG1 : G1.type = u ∧ G1.offset = 1) (cp : P.cellsOf p = 2) (cu : P.cellsOf u = 1)
    (hd : DataW.trod enc P w base sp held fuel t [x] = some y) : ∃ (n : Nat) (X Y : Nat → Int), Pts w x n X Y := by
  rcases Deep.open_slice ht hd with ⟨h, -⟩ | ⟨a, n, cap, m, q, D, Pl, hv, -, hl, hcap, hm, -, hel⟩
  · simp only [List.cons.injEq, and_true] at h
    subst h
    exact ⟨0, fun _ => 0, fun _ => 0, none, 0, 0, 0, rfl, Nat.le_refl _, by decide, fun h => absurd h (by omega), fun k h => absurd h (by omega)⟩
  · simp only [List.cons.injEq, and_true] at hv
    subst hv
    have hlm : n ≤ m := by rw [hm]; split <;> omega
    have hcap' : cap ≤ 9223372036854775807 := by unfold maxLen at hcap; omega
    obtain ⟨b, off, s⟩ := a
    have key : ∀ k, k < n → ∃ z : Int × Int, w.cell? (((⟨b, off, s⟩ : Addr).add (k * 2)).add 0) = some (.int .i64 z.1) ∧ w.cell? (((⟨b, off, s⟩ : Addr).add (k * 2)).add 1) = some (.int .i64 z.2) := fun k hk => by
      obtain ⟨cs', hc, htr⟩ := hel k (by omega)
      rw [cp] at hc
      obtain ⟨y0, y1, j, -, hlen, t0, t1⟩ := trod_struct2 hp htr
      rw [cp] at hlen
      match cs', hlen with
      | [x0, x1], _ =>
        rw [hG0.1, hG0.2, cu] at t0
        rw [hG1.1, hG1.2, cu] at t1
        obtain ⟨z0, q0, -, -⟩ := DataW.trod_int hu t0
        obtain ⟨z1, q1, -, -⟩ := DataW.trod_int hu t1
        simp at q0 q1
        subst q0 q1
        exact ⟨(z0, z1), cells2s hc⟩
    by_cases h0 : n = 0
    · subst h0
      exact ⟨0, fun _ => 0, fun _ => 0, some ⟨b, off, s⟩, cap, b, off, rfl, Nat.zero_le _, hcap', fun h => absurd h (by omega), fun k h => absurd h (by omega)⟩
    · have hs : s = none := by
        obtain ⟨z, hz, -⟩ := key 0 (by omega)
        have := spot_cell hz
        unfold Addr.add at this
        (repeat' split at this) <;> simp_all
      subst hs
      have key2 : ∀ k, k < n → ∃ z : Int × Int, w.cell? ⟨b, off + k * 2, none⟩ = some (.int .i64 z.1) ∧ w.cell? ⟨b, off + k * 2 + 1, none⟩ = some (.int .i64 z.2) := fun k hk => by
        obtain ⟨z, h0, h1⟩ := key k hk
        rw [addr_addO, addr_addO] at h0 h1
        exact ⟨z, h0, h1⟩
      refine ⟨n, fun k => if h : k < n then (key2 k h).choose.1 else 0, fun k => if h : k < n then (key2 k h).choose.2 else 0, some ⟨b, off, none⟩, cap, b, off, rfl, hl, hcap', fun _ => rfl, fun k hk => ?_⟩
      simp only [dif_pos hk]
      exact (key2 k hk).choose_spec
theorem open_query {t tb s p u : TypeId} {F0 F1 F2 B0 B1 G0 G1 : Field} {v : Value} {d : DataW H} {ps : List MemPlace} (hs : P.underlying t = some (.struct #[F0, F1, F2])) (hsb : P.underlying tb = some (.struct #[B0, B1]))
    (hF0 : F0.type = u ∧ F0.offset = 0) (hF1 : F1.type = tb ∧ F1.offset = 1) (hF2 : F2.type = s ∧ F2.offset = 5) (hB0 : B0.type = p ∧ B0.offset = 0) (hB1 : B1.type = p ∧ B1.offset = 2)
    (ct : P.cellsOf t = 6) (cb : P.cellsOf tb = 4) (cs' : P.cellsOf s = 1)
    (ht : P.underlying s = some (.slice p)) (hp : P.underlying p = some (.struct #[G0, G1])) (hu : P.underlying u = some (.int .i64))
    (hG0 : G0.type = u ∧ G0.offset = 0) (hG1 : G1.type = u ∧ G1.offset = 1) (cp : P.cellsOf p = 2) (cu : P.cellsOf u = 1)
    (hval : Value.okWide P w r b0 t v) (hd : DataW.Trod enc P w base sp held t v d ps) : ∃ (k lx ly hx hy : Int) (x : Value) (n : Nat) (X Y : Nat → Int), v = .agg #[.int .i64 k, .int .i64 lx, .int .i64 ly, .int .i64 hx, .int .i64 hy, x] ∧ Pts w x n X Y := by
  obtain ⟨cs, rfl, hsz⟩ := okWide_struct hs hval
  obtain ⟨fuel, hf⟩ := hd
  obtain ⟨y0, y1, y2, j, -, hlen, t0, t1, t2⟩ := Deep.trod_struct3 hs hf
  rw [ct] at hlen
  replace hlen : cs.toList.length = 6 := hlen
  obtain ⟨l, rfl⟩ : ∃ l : List Value, cs = l.toArray := ⟨cs.toList, by simp⟩
  match l, hlen with
  | [a, b, c, e, f, g], _ =>
    rw [hF0.1, hF0.2, cu] at t0
    rw [hF1.1, hF1.2, cb] at t1
    rw [hF2.1, hF2.2, cs'] at t2
    obtain ⟨z0, q0, -, -⟩ := DataW.trod_int hu t0
    simp [Value.cells] at q0
    obtain ⟨y3, y4, j2, -, -, t3, t4⟩ := trod_struct2 hsb t1
    rw [hB0.1, hB0.2, cp] at t3
    rw [hB1.1, hB1.2, cp] at t4
    obtain ⟨y5, y6, j3, -, -, t5, t6⟩ := trod_struct2 hp t3
    rw [hG0.1, hG0.2, cu] at t5
    rw [hG1.1, hG1.2, cu] at t6
    obtain ⟨y7, y8, j4, -, -, t7, t8⟩ := trod_struct2 hp t4
    rw [hG0.1, hG0.2, cu] at t7
    rw [hG1.1, hG1.2, cu] at t8
    obtain ⟨z1, q1, -, -⟩ := DataW.trod_int hu t5
    obtain ⟨z2, q2, -, -⟩ := DataW.trod_int hu t6
    obtain ⟨z3, q3, -, -⟩ := DataW.trod_int hu t7
    obtain ⟨z4, q4, -, -⟩ := DataW.trod_int hu t8
    simp [Value.cells] at q1 q2 q3 q4
    subst q0 q1 q2 q3 q4
    have t9 : DataW.trod enc P w base sp held j s [g] = some y2 := by simpa [Value.cells] using t2
    obtain ⟨n, X, Y, hP⟩ := trod_ptsC ht hp hu hG0 hG1 cp cu t9
    exact ⟨z0, z1, z2, z3, z4, g, n, X, Y, rfl, hP⟩
end
end Go.Proofs.YtfobmlgpjhghdaaGreatDoor
namespace Go.Proofs.YtfobmlgpjhghdaaGreatDoor
set_option linter.unusedVariables false
set_option linter.unusedSimpArgs false
open Go.ChangeShapes Go.WideShapes Go.ChangeAt Go.RowKit
theorem meV_iff {a b c d p q r s : Int} (h : boxB a b c d = true) (g : boxB p q r s = true) : meV a b c d p q r s = true ↔ a ≤ r ∧ p ≤ c ∧ b ≤ s ∧ q ≤ d := by
  unfold meV
  rw [h, g]
  simp only [Bool.and_eq_true, decide_eq_true_eq, Bool.true_and, and_assoc, true_and]
section
variable {k : Int} {n : Nat} {X Y : Nat → Int} {a b c d : Int}
theorem dist_0 {lx ly hx hy px py : Int} (hb : lx ≤ hx ∧ ly ≤ hy) : distZ lx ly hx hy px py = 0 ↔ lx ≤ px ∧ px ≤ hx ∧ ly ≤ py ∧ py ≤ hy := by
  have sq : ∀ u : Int, 0 ≤ u → (u * u = 0 ↔ u = 0) := fun u hu => by
    constructor
    · intro h
      rcases Int.mul_eq_zero.1 h with g | g <;> exact g
    · intro h; rw [h]; rfl
  have b0 : ∀ lo hi v : Int, lo ≤ hi → (beyZ lo hi v = 0 ↔ lo ≤ v ∧ v ≤ hi) := fun lo hi v h => by
    unfold beyZ; split
    · omega
    · split <;> omega
  have n1 := Int.mul_nonneg (bey_nn lx hx px) (bey_nn lx hx px)
  have n2 := Int.mul_nonneg (bey_nn ly hy py) (bey_nn ly hy py)
  have s1 := sq _ (bey_nn lx hx px)
  have s2 := sq _ (bey_nn ly hy py)
  rw [b0 _ _ _ hb.1] at s1
  rw [b0 _ _ _ hb.2] at s2
  unfold distZ
  constructor
  · intro h
    have := s1.1 (by omega)
    have := s2.1 (by omega)
    omega
  · intro h
    have := s1.2 (by omega)
    have := s2.2 (by omega)
    omega
end
end Go.Proofs.YtfobmlgpjhghdaaGreatDoor
namespace Go.Proofs.YtfobmlgpjhghdaaGreatDoor
set_option linter.unusedVariables false
set_option linter.unusedSimpArgs false
set_option linter.unusedSectionVars false
open Go.ChangeShapes Go.WideShapes Go.ChangeAt Go.RowKit
theorem q_bb {lx ly hx hy : Int} (h1 : lx < hx) (h2 : ly < hy) : mnN (Rg.qX lx hx) 4 = lx ∧ mnN (Rg.qY ly hy) 4 = ly ∧ mxN (Rg.qX lx hx) 4 = hx ∧ mxN (Rg.qY ly hy) 4 = hy := by
  refine ⟨?_, ?_, ?_, ?_⟩
  · show minZ (minZ (minZ lx hx) hx) lx = lx
    simp only [minZ]; (repeat' split) <;> omega
  · show minZ (minZ (minZ ly ly) hy) hy = ly
    simp only [minZ]; (repeat' split) <;> omega
  · show maxZ (maxZ (maxZ lx hx) hx) lx = hx
    simp only [maxZ]; (repeat' split) <;> omega
  · show maxZ (maxZ (maxZ ly ly) hy) hy = hy
    simp only [maxZ]; (repeat' split) <;> omega
theorem stP_hor {a b c d x1 x2 y0 : Int} (hb : a ≤ c ∧ b ≤ d) (h : ovP a b c d x1 y0 x2 y0) : stP a b c d x1 y0 x2 y0 := by
  have e : cr x1 y0 x2 y0 a y0 = 0 := by unfold cr; grind
  refine ⟨h, a, y0, a, y0, ?_, ?_, by rw [e]; omega, by rw [e]; omega⟩ <;> (unfold ovP at h; unfold inP; omega)
theorem stP_ver {a b c d x0 y1 y2 : Int} (hb : a ≤ c ∧ b ≤ d) (h : ovP a b c d x0 y1 x0 y2) : stP a b c d x0 y1 x0 y2 := by
  have e : cr x0 y1 x0 y2 x0 b = 0 := by unfold cr; grind
  refine ⟨h, x0, b, x0, b, ?_, ?_, by rw [e]; omega, by rw [e]; omega⟩ <;> (unfold ovP at h; unfold inP; omega)
section
variable {lx ly hx hy : Int} (n1 : nearB lx ly = true) (n2 : nearB hx hy = true) (h1 : lx < hx) (h2 : ly < hy)
include n1 n2 h1 h2
theorem q_ok : (Rg.ringC 4 (Rg.qX lx hx) (Rg.qY ly hy)).1 = 0 := by rw [Rg.q_ring n1 n2 h1 h2]
theorem bx_q : boxB lx ly hx hy = true := boxB_iff.2 ⟨⟨n1, n2⟩, by omega, by omega⟩
theorem q_meets {a b c d : Int} (hb : boxB a b c d = true) : rmD 4 (Rg.qX lx hx) (Rg.qY ly hy) a b c d = meV lx ly hx hy a b c d := by
  have q0 := q_ok n1 n2 h1 h2
  have bq := bx_q n1 n2 h1 h2
  have bb := (boxB_iff.1 hb).2
  refine bool_iff ?_
  rw [meV_iff bq hb]
  constructor
  · intro h
    have := rmD_ov q0 hb h
    obtain ⟨e1, e2, e3, e4⟩ := q_bb h1 h2
    rw [e1, e2, e3, e4] at this
    exact this
  · intro h
    rw [rmD_iff q0 hb]
    by_cases s0 : stP a b c d lx ly hx ly
    · exact Or.inr ⟨0, by omega, s0⟩
    by_cases s1 : stP a b c d hx ly hx hy
    · exact Or.inr ⟨1, by omega, s1⟩
    by_cases s2 : stP a b c d hx hy lx hy
    · exact Or.inr ⟨2, by omega, s2⟩
    by_cases s3 : stP a b c d lx hy lx ly
    · exact Or.inr ⟨3, by omega, s3⟩
    left
    have k0 : ¬ ovP a b c d lx ly hx ly := fun g => s0 (stP_hor bb g)
    have k1 : ¬ ovP a b c d hx ly hx hy := fun g => s1 (stP_ver bb g)
    have k2 : ¬ ovP a b c d hx hy lx hy := fun g => s2 (stP_hor bb g)
    have k3 : ¬ ovP a b c d lx hy lx ly := fun g => s3 (stP_ver bb g)
    unfold ovP at k0 k1 k2 k3
    exact (Rg.q_has n1 n2 (boxB_iff.1 hb).1.1 h1 h2).2 (by omega)
theorem q_in {i : Nat} (hi : i < 4) : inP lx ly hx hy (Rg.qX lx hx i) (Rg.qY ly hy i) := by
  unfold inP
  match i, hi with
  | 0, _ => exact ⟨Int.le_refl _, by show lx ≤ hx; omega, Int.le_refl _, by show ly ≤ hy; omega⟩
  | 1, _ => exact ⟨by show lx ≤ hx; omega, Int.le_refl _, Int.le_refl _, by show ly ≤ hy; omega⟩
  | 2, _ => exact ⟨by show lx ≤ hx; omega, Int.le_refl _, by show ly ≤ hy; omega, Int.le_refl _⟩
  | 3, _ => exact ⟨Int.le_refl _, by show lx ≤ hx; omega, by show ly ≤ hy; omega, Int.le_refl _⟩
theorem q_side {ax ay bx by' : Int} (na : nearB ax ay = true) (nb : nearB bx by' = true) (h : siF lx ly hx hy ax ay bx by' = true) : ∃ i, i < 4 ∧ meG (Rg.qX lx hx i) (Rg.qY ly hy i) (Rg.qX lx hx (Rg.nx1 4 i)) (Rg.qY ly hy (Rg.nx1 4 i)) ax ay bx by' = true := by
  have m : ∀ i, i < 4 → nearB (Rg.qX lx hx i) (Rg.qY ly hy i) = true := (Rg.ringC_ok (q_ok n1 n2 h1 h2)).2.1
  have g : ∀ i, i < 4 → meF ax ay bx by' (Rg.qX lx hx i) (Rg.qY ly hy i) (Rg.qX lx hx (Rg.nx1 4 i)) (Rg.qY ly hy (Rg.nx1 4 i)) = true → meG (Rg.qX lx hx i) (Rg.qY ly hy i) (Rg.qX lx hx (Rg.nx1 4 i)) (Rg.qY ly hy (Rg.nx1 4 i)) ax ay bx by' = true := fun i hi k => by
    unfold meG all4
    rw [m i hi, m _ (nxl_of (by omega) hi), na, nb, meF_swap, k]; rfl
  unfold siF at h
  simp only [Bool.or_eq_true] at h
  rcases h with ((h | h) | h) | h
  · exact ⟨0, by omega, g 0 (by omega) h⟩
  · exact ⟨1, by omega, g 1 (by omega) h⟩
  · exact ⟨2, by omega, g 2 (by omega) h⟩
  · exact ⟨3, by omega, g 3 (by omega) h⟩
theorem q_rings {m : Nat} {P Q : Nat → Int} (h0 : (Rg.ringC m P Q).1 = 0) : rgD 4 (Rg.qX lx hx) (Rg.qY ly hy) m P Q = rmD m P Q lx ly hx hy := by
  have bq := bx_q n1 n2 h1 h2
  obtain ⟨k1, k2, -⟩ := Rg.ringC_ok h0
  have hm : 0 < m := by omega
  have hb : lx ≤ hx ∧ ly ≤ hy := by omega
  refine bool_iff ?_
  rw [rgD_iff, rmD_iff h0 bq, Rg.q_has n1 n2 (k2 0 hm) h1 h2]
  constructor
  · rintro (h | h | ⟨i, k, hi, hk, h⟩)
    · exact Or.inr ⟨0, hm, stP_a (by unfold inP; omega)⟩
    · exact Or.inl h
    · refine Or.inr ⟨k, hk, ?_⟩
      have := meG_F h
      rw [← meF_swap] at this
      exact me_parts this (q_in n1 n2 h1 h2 hi) (q_in n1 n2 h1 h2 (nxl_of (by omega) hi))
  · rintro (h | ⟨k, hk, h⟩)
    · exact Or.inr (Or.inl h)
    ·
      have side : ∀ j, j < m → siF lx ly hx hy (P j) (Q j) (P (Rg.nx1 m j)) (Q (Rg.nx1 m j)) = true → (lx ≤ P 0 ∧ P 0 ≤ hx ∧ ly ≤ Q 0 ∧ Q 0 ≤ hy) ∨ Rg.hasN m P Q (Rg.qX lx hx 0) (Rg.qY ly hy 0) = true ∨ ∃ i k, i < 4 ∧ k < m ∧ meG (Rg.qX lx hx i) (Rg.qY ly hy i) (Rg.qX lx hx (Rg.nx1 4 i)) (Rg.qY ly hy (Rg.nx1 4 i)) (P k) (Q k) (P (Rg.nx1 m k)) (Q (Rg.nx1 m k)) = true := fun j hj g => by
        obtain ⟨i, hi, g⟩ := q_side n1 n2 h1 h2 (k2 j hj) (k2 _ (nxl_of (by omega) hj)) g
        exact Or.inr (Or.inr ⟨i, j, hi, hj, g⟩)
      have back : ∀ j, j < m → inP lx ly hx hy (P j) (Q j) → (lx ≤ P 0 ∧ P 0 ≤ hx ∧ ly ≤ Q 0 ∧ Q 0 ≤ hy) ∨ Rg.hasN m P Q (Rg.qX lx hx 0) (Rg.qY ly hy 0) = true ∨ ∃ i k, i < 4 ∧ k < m ∧ meG (Rg.qX lx hx i) (Rg.qY ly hy i) (Rg.qX lx hx (Rg.nx1 4 i)) (Rg.qY ly hy (Rg.nx1 4 i)) (P k) (Q k) (P (Rg.nx1 m k)) (Q (Rg.nx1 m k)) = true := by
        intro j
        induction j with
        | zero => intro _ g; unfold inP at g; exact Or.inl g
        | succ j ih =>
          intro hj g
          by_cases c : inP lx ly hx hy (P j) (Q j)
          · exact ih (by omega) c
          · have e : Rg.nx1 m j = j + 1 := by unfold Rg.nx1; rw [if_neg (by omega)]
            exact side j (by omega) (by rw [e]; exact enters g c)
      by_cases ca : inP lx ly hx hy (P k) (Q k)
      · exact back k hk ca
      by_cases cb : inP lx ly hx hy (P (Rg.nx1 m k)) (Q (Rg.nx1 m k))
      · exact back _ (nxl_of (by omega) hk) cb
      refine side k hk ?_
      have := sides_diag hb h.1 ca cb
      have d := st_di hb h ca cb
      revert this d
      cases siF lx ly hx hy (P k) (Q k) (P (Rg.nx1 m k)) (Q (Rg.nx1 m k)) <;> cases diF lx ly hx hy (P k) (Q k) (P (Rg.nx1 m k)) (Q (Rg.nx1 m k)) <;> simp
end
theorem low_mul (t s : Nat) (hs : 0 < s) : lowN (t * s) s = t ∧ lowD (t * s) s = 1 := by
  unfold lowN lowD
  rw [Nat.mul_mod_left, Nat.gcd_zero_right]
  exact ⟨Nat.mul_div_cancel _ hs, Nat.div_self hs⟩
theorem sd_hor {x1 x2 y0 px py : Int} (h : x1 < x2) : sdN x1 y0 x2 y0 px py = (beyZ x1 x2 px * beyZ x1 x2 px + (py - y0) * (py - y0)).toNat ∧ sdD x1 y0 x2 y0 px py = 1 := by
  have ea : alZ x1 y0 x2 y0 px py = (x2 - x1) * (px - x1) := by unfold alZ; grind
  have es : sqZ x1 y0 x2 y0 = (x2 - x1) * (x2 - x1) := by unfold sqZ; grind
  have ec : cr x1 y0 x2 y0 px py = (x2 - x1) * (py - y0) := by unfold cr; grind
  have hp : 0 < x2 - x1 := by omega
  unfold sdN sdD
  rw [ea, es, ec]
  by_cases c1 : px ≤ x1
  · have : (x2 - x1) * (px - x1) ≤ 0 := Int.mul_nonpos_of_nonneg_of_nonpos (by omega) (by omega)
    rw [if_pos this, if_pos this]
    refine ⟨?_, rfl⟩
    congr 1
    have e : beyZ x1 x2 px = x1 - px := by unfold beyZ; split <;> (try split) <;> omega
    rw [e]; unfold sqZ; grind
  have c1' : ¬ (x2 - x1) * (px - x1) ≤ 0 := by
    have := Int.mul_pos hp (by omega : 0 < px - x1); omega
  rw [if_neg c1', if_neg c1']
  by_cases c2 : x2 ≤ px
  · have : (x2 - x1) * (x2 - x1) ≤ (x2 - x1) * (px - x1) := Int.mul_le_mul_of_nonneg_left (by omega) (by omega)
    rw [if_pos this, if_pos this]
    refine ⟨?_, rfl⟩
    congr 1
    have e : beyZ x1 x2 px = px - x2 := by unfold beyZ; split <;> (try split) <;> omega
    rw [e]; unfold sqZ; grind
  have c2' : ¬ (x2 - x1) * (x2 - x1) ≤ (x2 - x1) * (px - x1) := by
    have := Int.mul_lt_mul_of_pos_left (by omega : px - x1 < x2 - x1) hp; omega
  rw [if_neg c2', if_neg c2']
  have e : beyZ x1 x2 px = 0 := by unfold beyZ; split <;> (try split) <;> omega
  rw [e]
  have hm : ((x2 - x1) * (py - y0)).natAbs * ((x2 - x1) * (py - y0)).natAbs = ((py - y0).natAbs * (py - y0).natAbs) * ((x2 - x1) * (x2 - x1)).toNat := by
    have e1 : ((x2 - x1) * (x2 - x1)).toNat = (x2 - x1).natAbs * (x2 - x1).natAbs := by
      rw [← Int.natAbs_mul]
      have := Int.mul_nonneg (by omega : 0 ≤ x2 - x1) (by omega : 0 ≤ x2 - x1)
      omega
    rw [e1, Int.natAbs_mul]
    grind
  have hs : 0 < ((x2 - x1) * (x2 - x1)).toNat := by have := Int.mul_pos hp hp; omega
  rw [hm]
  obtain ⟨l1, l2⟩ := low_mul ((py - y0).natAbs * (py - y0).natAbs) _ hs
  refine ⟨?_, l2⟩
  rw [l1, ← Int.natAbs_mul]
  have : 0 ≤ (py - y0) * (py - y0) := by
    rcases Int.le_total 0 (py - y0) with g | g
    · exact Int.mul_nonneg g g
    · exact Int.mul_nonneg_of_nonpos_of_nonpos g g
  omega
theorem sd_sw (ax ay bx by' px py : Int) : sdN ay ax by' bx py px = sdN ax ay bx by' px py ∧ sdD ay ax by' bx py px = sdD ax ay bx by' px py := by
  have e1 : alZ ay ax by' bx py px = alZ ax ay bx by' px py := by unfold alZ; grind
  have e2 : sqZ ay ax by' bx = sqZ ax ay bx by' := by unfold sqZ; grind
  have e3 : sqZ ay ax py px = sqZ ax ay px py := by unfold sqZ; grind
  have e4 : sqZ by' bx py px = sqZ bx by' px py := by unfold sqZ; grind
  have e5 : (cr ay ax by' bx py px).natAbs = (cr ax ay bx by' px py).natAbs := by
    have : cr ay ax by' bx py px = -cr ax ay bx by' px py := by unfold cr; grind
    rw [this, Int.natAbs_neg]
  unfold sdN sdD
  rw [e1, e2, e3, e4, e5]
  exact ⟨rfl, rfl⟩
theorem fa_min {n : Nat} {X Y : Nat → Int} {px py : Int} (v : Nat → Nat) : ∀ k, 1 ≤ k → (∀ i, i < k → faD n X Y px py i = (v i, 1)) → ∃ m, faW n X Y px py (List.range k) = (m, 1) ∧ (∃ i, i < k ∧ m = v i) ∧ ∀ i, i < k → m ≤ v i := by
  intro k
  induction k with
  | zero => intro h; omega
  | succ k ih =>
    intro _ h
    rw [List.range_succ, faW_snoc, h k (by omega)]
    by_cases hk : k = 0
    · subst hk
      refine ⟨v 0, ?_, ⟨0, by omega, rfl⟩, fun i hi => ?_⟩
      · unfold faS
        exact if_pos (Or.inl rfl)
      · obtain rfl : i = 0 := by omega
        exact Nat.le_refl _
    · obtain ⟨m, e, ⟨i, hi, hm⟩, hl⟩ := ih (by omega) (fun i hi => h i (by omega))
      rw [e]
      have ec : cmpD (v k) 1 m 1 = if v k < m then -1 else if m < v k then 1 else 0 := by
        unfold cmpD cmpN
        rw [if_neg (by decide), if_neg (by decide), Nat.mul_one, Nat.mul_one]
      unfold faS
      by_cases c : v k < m
      · rw [if_pos (Or.inr (by show cmpD (v k) 1 m 1 < 0; rw [ec, if_pos c]; decide))]
        exact ⟨v k, rfl, ⟨k, by omega, rfl⟩, fun j hj => by
          rcases Nat.lt_or_ge j k with g | g
          · have := hl j g; omega
          · obtain rfl : j = k := by omega
            exact Nat.le_refl _⟩
      · rw [if_neg (by
          rintro (g | g)
          · exact absurd (show (1 : Nat) = 0 from g) (by decide)
          · have g' : cmpD (v k) 1 m 1 < 0 := g
            rw [ec, if_neg c] at g'
            split at g' <;> omega)]
        exact ⟨m, rfl, ⟨i, by omega, hm⟩, fun j hj => by
          rcases Nat.lt_or_ge j k with g | g
          · exact hl j g
          · obtain rfl : j = k := by omega
            omega⟩
theorem q_far {lx ly hx hy px py : Int} (n1 : nearB lx ly = true) (n2 : nearB hx hy = true) (h1 : lx < hx) (h2 : ly < hy) (hp : nearB px py = true) : faP 4 (Rg.qX lx hx) (Rg.qY ly hy) px py = ((distZ lx ly hx hy px py).toNat, 1) := by
  have q0 := q_ok n1 n2 h1 h2
  have nr := (Rg.ringC_ok q0).2.1
  have hq := Rg.q_has n1 n2 hp h1 h2
  unfold faP
  cases hh : Rg.hasN 4 (Rg.qX lx hx) (Rg.qY ly hy) px py
  · rw [if_neg (by decide)]
    have ho : ¬ (lx ≤ px ∧ px ≤ hx ∧ ly ≤ py ∧ py ≤ hy) := fun g => by rw [hq.2 g] at hh; cases hh
    have A := sd_hor (y0 := ly) (px := px) (py := py) h1
    have B0 := sd_hor (y0 := hx) (px := py) (py := px) h2
    have C := sd_hor (y0 := hy) (px := px) (py := py) h1
    have D0 := sd_hor (y0 := lx) (px := py) (py := px) h2
    have B1 := sd_sw hx ly hx hy px py
    have C1 := sd_flip lx hy hx hy px py
    have D1 := sd_sw lx ly lx hy px py
    have D2 := sd_flip lx ly lx hy px py
    obtain ⟨m, e, ⟨i, hi, hm⟩, hl⟩ := fa_min (n := 4) (X := Rg.qX lx hx) (Y := Rg.qY ly hy) (px := px) (py := py) (fun i => if i = 0 then (beyZ lx hx px * beyZ lx hx px + (py - ly) * (py - ly)).toNat else if i = 1 then (beyZ ly hy py * beyZ ly hy py + (px - hx) * (px - hx)).toNat else if i = 2 then (beyZ lx hx px * beyZ lx hx px + (py - hy) * (py - hy)).toNat else (beyZ ly hy py * beyZ ly hy py + (px - lx) * (px - lx)).toNat) 4 (by omega) (fun i hi => by
      rw [faD_near nr hp hi]
      match i, hi with
      | 0, _ => exact Prod.ext A.1 A.2
      | 1, _ => exact Prod.ext (B1.1.symm.trans B0.1) (B1.2.symm.trans B0.2)
      | 2, _ => exact Prod.ext (C1.1.trans C.1) (C1.2.trans C.2)
      | 3, _ => exact Prod.ext (D2.1.trans (D1.1.symm.trans D0.1)) (D2.2.trans (D1.2.symm.trans D0.2)))
    rw [e]
    congr 1
    have x1 := bey_nn lx hx px
    have y1 := bey_nn ly hy py
    have X2 := Int.mul_nonneg x1 x1
    have Y2 := Int.mul_nonneg y1 y1
    have f1 := bey_far (lo := ly) (hi := hy) (v := py) (u := ly) (by omega)
    have f2 := bey_far (lo := lx) (hi := hx) (v := px) (u := hx) (by omega)
    have f3 := bey_far (lo := ly) (hi := hy) (v := py) (u := hy) (by omega)
    have f4 := bey_far (lo := lx) (hi := hx) (v := px) (u := lx) (by omega)
    have g0 : m ≤ (beyZ lx hx px * beyZ lx hx px + (py - ly) * (py - ly)).toNat := hl 0 (by omega)
    have g1 : m ≤ (beyZ ly hy py * beyZ ly hy py + (px - hx) * (px - hx)).toNat := hl 1 (by omega)
    have g2 : m ≤ (beyZ lx hx px * beyZ lx hx px + (py - hy) * (py - hy)).toNat := hl 2 (by omega)
    have g3 : m ≤ (beyZ ly hy py * beyZ ly hy py + (px - lx) * (px - lx)).toNat := hl 3 (by omega)
    have lo : (distZ lx ly hx hy px py).toNat ≤ m := by
      unfold distZ
      match i, hi with
      | 0, _ => have hm : m = (beyZ lx hx px * beyZ lx hx px + (py - ly) * (py - ly)).toNat := hm
                omega
      | 1, _ => have hm : m = (beyZ ly hy py * beyZ ly hy py + (px - hx) * (px - hx)).toNat := hm
                omega
      | 2, _ => have hm : m = (beyZ lx hx px * beyZ lx hx px + (py - hy) * (py - hy)).toNat := hm
                omega
      | 3, _ => have hm : m = (beyZ ly hy py * beyZ ly hy py + (px - lx) * (px - lx)).toNat := hm
                omega
    have up : m ≤ (distZ lx ly hx hy px py).toNat := by
      unfold distZ
      rcases (by omega : px < lx ∨ hx < px ∨ py < ly ∨ hy < py) with c | c | c | c
      · have e : (px - lx) * (px - lx) = beyZ lx hx px * beyZ lx hx px := by
          have : beyZ lx hx px = lx - px := by unfold beyZ; rw [if_pos c]
          rw [this]; grind
        omega
      · have e : (px - hx) * (px - hx) = beyZ lx hx px * beyZ lx hx px := by
          have : beyZ lx hx px = px - hx := by unfold beyZ; rw [if_neg (by omega), if_pos c]
          rw [this]
        omega
      · have e : (py - ly) * (py - ly) = beyZ ly hy py * beyZ ly hy py := by
          have : beyZ ly hy py = ly - py := by unfold beyZ; rw [if_pos c]
          rw [this]; grind
        omega
      · have e : (py - hy) * (py - hy) = beyZ ly hy py * beyZ ly hy py := by
          have : beyZ ly hy py = py - hy := by unfold beyZ; rw [if_neg (by omega), if_pos c]
          rw [this]
        omega
    omega
  · rw [if_pos rfl]
    have := hq.1 hh
    rw [(dist_0 (px := px) (py := py) ⟨by omega, by omega⟩).2 this]
    rfl
end Go.Proofs.YtfobmlgpjhghdaaGreatDoor
namespace Go.Proofs.YtfobmlgpjhghdaaGreatDoor
set_option linter.unusedVariables false
set_option linter.unusedSimpArgs false
open Go.ChangeShapes Go.WideShapes Go.ChangeAt Go.RowKit
theorem eqDist6 (a b c : Int) (w : World) : (binOp .eql 42 (.agg #[.int .u64 a, .int .u64 b, .int .u64 c]) (.agg #[.int .u64 a, .int .u64 b, .int .u64 c])).run Tryz.prog w = .ok (.bool true) w := by simp [go_sem]
theorem dG_val (ok : Bool) (s : Nat × Nat) : ∃ a b c : Int, dG ok s = .agg #[.int .u64 a, .int .u64 b, .int .u64 c] := by
  unfold dG dV
  cases ok
  · exact ⟨0, 0, 0, rfl⟩
  · exact ⟨_, _, _, rfl⟩
end Go.Proofs.YtfobmlgpjhghdaaGreatDoor
namespace Go.Proofs.YtfobmlgpjhghdaaGreatDoor
set_option linter.unusedVariables false
set_option linter.unusedSimpArgs false
open Go.ChangeShapes Go.WideShapes Go.ChangeAt Go.RowKit
def cX (lx hx : Int) : Nat → Int := fun i => if i = 0 then lx else hx
theorem pts_two {w : World} {B : Nat} {x y z u : Int} (h0 : w.cell? ⟨B, 0, none⟩ = some (.int .i64 x)) (h1 : w.cell? ⟨B, 1, none⟩ = some (.int .i64 y)) (h2 : w.cell? ⟨B, 2, none⟩ = some (.int .i64 z)) (h3 : w.cell? ⟨B, 3, none⟩ = some (.int .i64 u)) : Pts w (.slice (some ⟨B, 0, none⟩) 2 2) 2 (cX x z) (cX y u) :=
  ⟨some ⟨B, 0, none⟩, 2, B, 0, rfl, Nat.le_refl _, by decide, fun _ => rfl, fun k hk => by match k, hk with | 0, _ => exact ⟨h0, h1⟩ | 1, _ => exact ⟨h2, h3⟩⟩
theorem pts_four {w : World} {B : Nat} {lx ly hx hy : Int} (h0 : w.cell? ⟨B, 0, none⟩ = some (.int .i64 lx)) (h1 : w.cell? ⟨B, 1, none⟩ = some (.int .i64 ly)) (h2 : w.cell? ⟨B, 2, none⟩ = some (.int .i64 hx)) (h3 : w.cell? ⟨B, 3, none⟩ = some (.int .i64 ly))
    (h4 : w.cell? ⟨B, 4, none⟩ = some (.int .i64 hx)) (h5 : w.cell? ⟨B, 5, none⟩ = some (.int .i64 hy)) (h6 : w.cell? ⟨B, 6, none⟩ = some (.int .i64 lx)) (h7 : w.cell? ⟨B, 7, none⟩ = some (.int .i64 hy)) : Pts w (.slice (some ⟨B, 0, none⟩) 4 4) 4 (Rg.qX lx hx) (Rg.qY ly hy) :=
  ⟨some ⟨B, 0, none⟩, 4, B, 0, rfl, Nat.le_refl _, by decide, fun _ => rfl, fun k hk => by match k, hk with | 0, _ => exact ⟨h0, h1⟩ | 1, _ => exact ⟨h2, h3⟩ | 2, _ => exact ⟨h4, h5⟩ | 3, _ => exact ⟨h6, h7⟩⟩
set_option maxHeartbeats 16000000 in
set_option maxRecDepth 100000 in
theorem same_core {m bcap : Nat} {bd : Option Addr} (lx ly hx hy kq a b c d px py dh dl dd : Int) (z : Bool) (W : World) (hm : m ≤ 64) (h1 : lx < hx) (h2 : ly < hy)
    (A0 : ∀ w, Calls Tryz.prog 25 #[.agg #[.int .i64 lx, .int .i64 ly, .int .i64 hx, .int .i64 hy]] w fun e w' => e = .returned (.int .i64 0) ∧ Gr w w')
    (A1 : ∀ w x, Gr W w → Pts w x 2 (cX lx hx) (cX ly hy) → Calls Tryz.prog 13 #[.agg #[.int .i64 3, x], qryV kq a b c d (.slice bd m bcap)] w fun e w' => e = .returned (.bool z) ∧ Gr w w')
    (A2 : ∀ w x, Gr W w → Pts w x 4 (Rg.qX lx hx) (Rg.qY ly hy) → Calls Tryz.prog 13 #[.agg #[.int .i64 4, x], qryV kq a b c d (.slice bd m bcap)] w fun e w' => e = .returned (.bool z) ∧ Gr w w')
    (A3 : ∀ w x, Gr W w → Pts w x 2 (cX lx hx) (cX ly hy) → Calls Tryz.prog 15 #[.agg #[.int .i64 3, x], .agg #[.int .i64 px, .int .i64 py]] w fun e w' => e = .returned (.agg #[.int .u64 dh, .int .u64 dl, .int .u64 dd]) ∧ Gr w w')
    (A4 : ∀ w x, Gr W w → Pts w x 4 (Rg.qX lx hx) (Rg.qY ly hy) → Calls Tryz.prog 15 #[.agg #[.int .i64 4, x], .agg #[.int .i64 px, .int .i64 py]] w fun e w' => e = .returned (.agg #[.int .u64 dh, .int .u64 dl, .int .u64 dd]) ∧ Gr w w')
    (A5 : ∀ w x y, Gr W w → Pts w x 2 (cX lx hx) (cX ly hy) → Pts w y 4 (Rg.qX lx hx) (Rg.qY ly hy) → Calls Tryz.prog 17 #[.agg #[.int .i64 3, x], .agg #[.int .i64 4, y]] w fun e w' => e = .returned (.bool true) ∧ Gr w w')
    (A6 : ∀ w x y, Gr W w → Pts w x 2 (cX lx hx) (cX ly hy) → Pts w y 4 (Rg.qX lx hx) (Rg.qY ly hy) → Calls Tryz.prog 19 #[.agg #[.int .i64 3, x], .agg #[.int .i64 4, y]] w fun e w' => e = .returned (.bool false) ∧ Gr w w')
    (A7 : ∀ w, Gr W w → Calls Tryz.prog 9 #[] w fun e w' => e = .returned (.bool true) ∧ Gr w w') :
    Calls Tryz.prog 6 #[.agg #[.int .i64 lx, .int .i64 ly, .int .i64 hx, .int .i64 hy], qryV kq a b c d (.slice bd m bcap), .agg #[.int .i64 px, .int .i64 py]] W fun e w' => e = .returned (.bool true) ∧ Gr W w' := by
  have t1 : (z == z) = true := by simp
  have t2 : decide (z = z) = true := by simp
  have t3 : decide ((64 : Int) < (m : Int)) = false := decide_eq_false (by omega)
  have t4 : decide (64 < m) = false := decide_eq_false (by omega)
  have t5 : (lx == hx) = false := by simp; omega
  have t6 : (ly == hy) = false := by simp; omega
  have t7 : decide (lx = hx) = false := decide_eq_false (by omega)
  have t8 : decide (ly = hy) = false := decide_eq_false (by omega)
  have EQ := eqDist6 dh dl dd
  have H0 := Lib.hid A0
  have H1 := Lib.hid A1
  have H2 := Lib.hid A2
  have H3 := Lib.hid A3
  have H4 := Lib.hid A4
  have H5 := Lib.hid A5
  have H6 := Lib.hid A6
  have H7 := Lib.hid A7
  clear A0 A1 A2 A3 A4 A5 A6 A7
  clear hm h1 h2
  go_enter Tryz.func6, Tryz.ntmps6
  go_wp2_with fail
  go_at_call 25
  refine ((H0.out _)).mono ?_
  rintro e w1 ⟨rfl, hw1⟩
  have cw1_0_0 := ci hw1 (W.heap.size) 0 lx (by go_simp)
  have cw1_0_1 := ci hw1 (W.heap.size) 1 ly (by go_simp)
  have cw1_0_2 := ci hw1 (W.heap.size) 2 hx (by go_simp)
  have cw1_0_3 := ci hw1 (W.heap.size) 3 hy (by go_simp)
  have zw1_0 := zb cw1_0_0
  have cw1_1_0 := ci hw1 (W.heap.size + 1) 0 kq (by go_simp)
  have cw1_1_1 := ci hw1 (W.heap.size + 1) 1 a (by go_simp)
  have cw1_1_2 := ci hw1 (W.heap.size + 1) 2 b (by go_simp)
  have cw1_1_3 := ci hw1 (W.heap.size + 1) 3 c (by go_simp)
  have cw1_1_4 := ci hw1 (W.heap.size + 1) 4 d (by go_simp)
  have cw1_1_5 := cg hw1 (W.heap.size + 1) 5 (.slice bd m bcap) (by go_simp)
  have zw1_1 := zb cw1_1_0
  have cw1_2_0 := ci hw1 (W.heap.size + 1 + 1) 0 px (by go_simp)
  have cw1_2_1 := ci hw1 (W.heap.size + 1 + 1) 1 py (by go_simp)
  have zw1_2 := zb cw1_2_0
  have gw1 : Gr W w1 := Gr.trans (by go_grown) hw1
  clear hw1
  go_wp2_with fail
  generalize hhw2 : ((((w1.alloc (.cells #[.int .i64 lx, .int .i64 ly, .int .i64 hx, .int .i64 hy] 26)).alloc (.cells #[.int .i64 3, .slice (some ⟨w1.heap.size, 0, none⟩) 2 2] 24)).alloc (.cells #[.int .i64 lx, .int .i64 ly, .int .i64 hx, .int .i64 ly, .int .i64 hx, .int .i64 hy, .int .i64 lx, .int .i64 hy] 26)).alloc (.cells #[.int .i64 4, .slice (some ⟨w1.heap.size + 1 + 1, 0, none⟩) 4 4] 24)) = w2
  have cw2_0_0 : w2.cell? ⟨W.heap.size, 0, none⟩ = some (.int .i64 lx) := by subst hhw2; first | (go_simp; done) | exact cell_gr (by go_grown) cw1_0_0
  have cw2_0_1 : w2.cell? ⟨W.heap.size, 1, none⟩ = some (.int .i64 ly) := by subst hhw2; first | (go_simp; done) | exact cell_gr (by go_grown) cw1_0_1
  have cw2_0_2 : w2.cell? ⟨W.heap.size, 2, none⟩ = some (.int .i64 hx) := by subst hhw2; first | (go_simp; done) | exact cell_gr (by go_grown) cw1_0_2
  have cw2_0_3 : w2.cell? ⟨W.heap.size, 3, none⟩ = some (.int .i64 hy) := by subst hhw2; first | (go_simp; done) | exact cell_gr (by go_grown) cw1_0_3
  have zw2_0 := zb cw2_0_0
  have cw2_1_0 : w2.cell? ⟨W.heap.size + 1, 0, none⟩ = some (.int .i64 kq) := by subst hhw2; first | (go_simp; done) | exact cell_gr (by go_grown) cw1_1_0
  have cw2_1_1 : w2.cell? ⟨W.heap.size + 1, 1, none⟩ = some (.int .i64 a) := by subst hhw2; first | (go_simp; done) | exact cell_gr (by go_grown) cw1_1_1
  have cw2_1_2 : w2.cell? ⟨W.heap.size + 1, 2, none⟩ = some (.int .i64 b) := by subst hhw2; first | (go_simp; done) | exact cell_gr (by go_grown) cw1_1_2
  have cw2_1_3 : w2.cell? ⟨W.heap.size + 1, 3, none⟩ = some (.int .i64 c) := by subst hhw2; first | (go_simp; done) | exact cell_gr (by go_grown) cw1_1_3
  have cw2_1_4 : w2.cell? ⟨W.heap.size + 1, 4, none⟩ = some (.int .i64 d) := by subst hhw2; first | (go_simp; done) | exact cell_gr (by go_grown) cw1_1_4
  have cw2_1_5 : w2.cell? ⟨W.heap.size + 1, 5, none⟩ = some (.slice bd m bcap) := by subst hhw2; first | (go_simp; done) | exact cell_gr (by go_grown) cw1_1_5
  have zw2_1 := zb cw2_1_0
  have cw2_2_0 : w2.cell? ⟨W.heap.size + 1 + 1, 0, none⟩ = some (.int .i64 px) := by subst hhw2; first | (go_simp; done) | exact cell_gr (by go_grown) cw1_2_0
  have cw2_2_1 : w2.cell? ⟨W.heap.size + 1 + 1, 1, none⟩ = some (.int .i64 py) := by subst hhw2; first | (go_simp; done) | exact cell_gr (by go_grown) cw1_2_1
  have zw2_2 := zb cw2_2_0
  have cw2_3_0 : w2.cell? ⟨w1.heap.size, 0, none⟩ = some (.int .i64 lx) := by subst hhw2; go_simp
  have cw2_3_1 : w2.cell? ⟨w1.heap.size, 1, none⟩ = some (.int .i64 ly) := by subst hhw2; go_simp
  have cw2_3_2 : w2.cell? ⟨w1.heap.size, 2, none⟩ = some (.int .i64 hx) := by subst hhw2; go_simp
  have cw2_3_3 : w2.cell? ⟨w1.heap.size, 3, none⟩ = some (.int .i64 hy) := by subst hhw2; go_simp
  have zw2_3 := zb cw2_3_0
  have cw2_4_0 : w2.cell? ⟨w1.heap.size + 1, 0, none⟩ = some (.int .i64 3) := by subst hhw2; go_simp
  have cw2_4_1 : w2.cell? ⟨w1.heap.size + 1, 1, none⟩ = some (.slice (some ⟨w1.heap.size, 0, none⟩) 2 2) := by subst hhw2; go_simp
  have zw2_4 := zb cw2_4_0
  have cw2_5_0 : w2.cell? ⟨w1.heap.size + 1 + 1, 0, none⟩ = some (.int .i64 lx) := by subst hhw2; go_simp
  have cw2_5_1 : w2.cell? ⟨w1.heap.size + 1 + 1, 1, none⟩ = some (.int .i64 ly) := by subst hhw2; go_simp
  have cw2_5_2 : w2.cell? ⟨w1.heap.size + 1 + 1, 2, none⟩ = some (.int .i64 hx) := by subst hhw2; go_simp
  have cw2_5_3 : w2.cell? ⟨w1.heap.size + 1 + 1, 3, none⟩ = some (.int .i64 ly) := by subst hhw2; go_simp
  have cw2_5_4 : w2.cell? ⟨w1.heap.size + 1 + 1, 4, none⟩ = some (.int .i64 hx) := by subst hhw2; go_simp
  have cw2_5_5 : w2.cell? ⟨w1.heap.size + 1 + 1, 5, none⟩ = some (.int .i64 hy) := by subst hhw2; go_simp
  have cw2_5_6 : w2.cell? ⟨w1.heap.size + 1 + 1, 6, none⟩ = some (.int .i64 lx) := by subst hhw2; go_simp
  have cw2_5_7 : w2.cell? ⟨w1.heap.size + 1 + 1, 7, none⟩ = some (.int .i64 hy) := by subst hhw2; go_simp
  have zw2_5 := zb cw2_5_0
  have cw2_6_0 : w2.cell? ⟨w1.heap.size + 1 + 1 + 1, 0, none⟩ = some (.int .i64 4) := by subst hhw2; go_simp
  have cw2_6_1 : w2.cell? ⟨w1.heap.size + 1 + 1 + 1, 1, none⟩ = some (.slice (some ⟨w1.heap.size + 1 + 1, 0, none⟩) 4 4) := by subst hhw2; go_simp
  have zw2_6 := zb cw2_6_0
  have gw2 : Gr W w2 := by subst hhw2; have gg := gw1; have gs := gg.size; go_grown
  clear hhw2 gw1 zw1_0 cw1_0_0 cw1_0_1 cw1_0_2 cw1_0_3 zw1_1 cw1_1_0 cw1_1_1 cw1_1_2 cw1_1_3 cw1_1_4 cw1_1_5 zw1_2 cw1_2_0 cw1_2_1
  have PX := Lib.hid (pts_two cw2_3_0 cw2_3_1 cw2_3_2 cw2_3_3)
  have PY := Lib.hid (pts_four cw2_5_0 cw2_5_1 cw2_5_2 cw2_5_3 cw2_5_4 cw2_5_5 cw2_5_6 cw2_5_7)
  have G2 := Lib.hid gw2
  clear gw2
  clear cw2_3_0 cw2_3_1 cw2_3_2 cw2_3_3 cw2_5_0 cw2_5_1 cw2_5_2 cw2_5_3 cw2_5_4 cw2_5_5 cw2_5_6 cw2_5_7 zw2_3 zw2_5
  go_wp2_with fail
  try simp only [List.append]
  refine Od.wp_region_ord [(0, false), (1, false), (3, false), (4, false), (2, true), (5, true), (6, false), (7, false), (8, false), (9, false), (11, false), (12, false), (10, true), (13, true), (14, false), (15, false), (16, false), (17, false), (18, false), (19, true), (20, false), (21, false), (22, false), (23, false), (24, true), (25, false), (26, false), (27, false), (28, true), (29, false), (30, false)] (by kernel_rfl) (by kernel_rfl) ?_
  intro w3 hw3 KQ hKQ
  have cw3_0_0 := ci hw3 (W.heap.size + 1) 0 kq (by go_simp)
  have cw3_0_1 := ci hw3 (W.heap.size + 1) 1 a (by go_simp)
  have cw3_0_2 := ci hw3 (W.heap.size + 1) 2 b (by go_simp)
  have cw3_0_3 := ci hw3 (W.heap.size + 1) 3 c (by go_simp)
  have cw3_0_4 := ci hw3 (W.heap.size + 1) 4 d (by go_simp)
  have cw3_0_5 := cg hw3 (W.heap.size + 1) 5 (.slice bd m bcap) (by go_simp)
  have cw3_1_0 := ci hw3 (W.heap.size + 1 + 1) 0 px (by go_simp)
  have cw3_1_1 := ci hw3 (W.heap.size + 1 + 1) 1 py (by go_simp)
  have cw3_2_0 := ci hw3 (w1.heap.size + 1) 0 3 (by go_simp)
  have cw3_2_1 := cg hw3 (w1.heap.size + 1) 1 (.slice (some ⟨w1.heap.size, 0, none⟩) 2 2) (by go_simp)
  have cw3_3_0 := ci hw3 (w1.heap.size + 1 + 1 + 1) 0 4 (by go_simp)
  have cw3_3_1 := cg hw3 (w1.heap.size + 1 + 1 + 1) 1 (.slice (some ⟨w1.heap.size + 1 + 1, 0, none⟩) 4 4) (by go_simp)
  have gw3 : Gr w2 w3 := Gr.trans (by go_grown) hw3
  skip
  clear hw3
  repeat (first | (refine Od.wpO_skip (by simp only [List.getElem?_toArray, List.getElem?_cons_succ, List.getElem?_cons_zero] <;> rfl) rfl ?_; simp only [Act.put, List.setIfInBounds_toArray, List.set_cons_zero, List.set_cons_succ]) | (refine Od.wpO_pure (by simp only [List.getElem?_toArray, List.getElem?_cons_succ, List.getElem?_cons_zero] <;> rfl) rfl ?_; apply Exists.intro; refine ⟨?_, ?_⟩; (· intro wx gx; obtain ⟨mx, rfl⟩ := spread_of_gr gx; clear gx; all_goals (apply Od.pAt_of_quiet; intro K hK; go_big_quiet_op; first | exact hK _ rfl | (apply Exists.intro; refine ⟨fun _ => ?_, ?_⟩; (· fail); exact hK _ rfl))); try simp only [Act.put, List.setIfInBounds_toArray, List.set_cons_zero, List.set_cons_succ]))
  refine Od.wpO_call (by simp only [List.getElem?_toArray, List.getElem?_cons_succ, List.getElem?_cons_zero] <;> rfl) rfl ?_
  intro QS hQS
  go_wp2_with fail
  go_at_call 13
  (with_reducible refine ((H1.out _ _ (Gr.trans G2.out gw3) (pts_gr PX.out gw3))).mono ?_)
  rintro e w4 ⟨rfl, hw4⟩
  go_wp2_with fail
  apply Exists.intro
  refine ⟨?_, hw4, ?_⟩
  · simp only [Act.put, List.setIfInBounds_toArray, List.set_cons_zero, List.set_cons_succ]; rfl
  have cw4_1_0 := ci hw4 (W.heap.size + 1 + 1) 0 px (by go_simp)
  have cw4_1_1 := ci hw4 (W.heap.size + 1 + 1) 1 py (by go_simp)
  have cw4_2_0 := ci hw4 (w1.heap.size + 1) 0 3 (by go_simp)
  have cw4_2_1 := cg hw4 (w1.heap.size + 1) 1 (.slice (some ⟨w1.heap.size, 0, none⟩) 2 2) (by go_simp)
  have cw4_3_0 := ci hw4 (w1.heap.size + 1 + 1 + 1) 0 4 (by go_simp)
  have cw4_3_1 := cg hw4 (w1.heap.size + 1 + 1 + 1) 1 (.slice (some ⟨w1.heap.size + 1 + 1, 0, none⟩) 4 4) (by go_simp)
  have gw4 : Gr w2 w4 := Gr.trans (by have gg := gw3; have gs := gg.size; go_grown) hw4
  clear gw3 cw3_0_0 cw3_0_1 cw3_0_2 cw3_0_3 cw3_0_4 cw3_0_5 cw3_1_0 cw3_1_1 cw3_2_0 cw3_2_1 cw3_3_0 cw3_3_1
  clear hw4
  try simp only [Act.put, List.setIfInBounds_toArray, List.set_cons_zero, List.set_cons_succ]
  repeat (first | (refine Od.wpO_skip (by simp only [List.getElem?_toArray, List.getElem?_cons_succ, List.getElem?_cons_zero] <;> rfl) rfl ?_; simp only [Act.put, List.setIfInBounds_toArray, List.set_cons_zero, List.set_cons_succ]) | (refine Od.wpO_pure (by simp only [List.getElem?_toArray, List.getElem?_cons_succ, List.getElem?_cons_zero] <;> rfl) rfl ?_; apply Exists.intro; refine ⟨?_, ?_⟩; (· intro wx gx; obtain ⟨mx, rfl⟩ := spread_of_gr gx; clear gx; all_goals (apply Od.pAt_of_quiet; intro K hK; go_big_quiet_op; first | exact hK _ rfl | (apply Exists.intro; refine ⟨fun _ => ?_, ?_⟩; (· fail); exact hK _ rfl))); try simp only [Act.put, List.setIfInBounds_toArray, List.set_cons_zero, List.set_cons_succ]))
  refine Od.wpO_call (by simp only [List.getElem?_toArray, List.getElem?_cons_succ, List.getElem?_cons_zero] <;> rfl) rfl ?_
  intro QS hQS
  go_wp2_with fail
  go_at_call 13
  (with_reducible refine ((H2.out _ _ (Gr.trans G2.out gw4) (pts_gr PY.out gw4))).mono ?_)
  rintro e w5 ⟨rfl, hw5⟩
  go_wp2_with fail
  apply Exists.intro
  refine ⟨?_, hw5, ?_⟩
  · simp only [Act.put, List.setIfInBounds_toArray, List.set_cons_zero, List.set_cons_succ]; rfl
  have cw5_1_0 := ci hw5 (W.heap.size + 1 + 1) 0 px (by go_simp)
  have cw5_1_1 := ci hw5 (W.heap.size + 1 + 1) 1 py (by go_simp)
  have cw5_2_0 := ci hw5 (w1.heap.size + 1) 0 3 (by go_simp)
  have cw5_2_1 := cg hw5 (w1.heap.size + 1) 1 (.slice (some ⟨w1.heap.size, 0, none⟩) 2 2) (by go_simp)
  have cw5_3_0 := ci hw5 (w1.heap.size + 1 + 1 + 1) 0 4 (by go_simp)
  have cw5_3_1 := cg hw5 (w1.heap.size + 1 + 1 + 1) 1 (.slice (some ⟨w1.heap.size + 1 + 1, 0, none⟩) 4 4) (by go_simp)
  have gw5 : Gr w2 w5 := Gr.trans (by have gg := gw4; have gs := gg.size; go_grown) hw5
  clear gw4 cw4_1_0 cw4_1_1 cw4_2_0 cw4_2_1 cw4_3_0 cw4_3_1
  clear hw5
  try simp only [Act.put, List.setIfInBounds_toArray, List.set_cons_zero, List.set_cons_succ]
  repeat (first | (refine Od.wpO_skip (by simp only [List.getElem?_toArray, List.getElem?_cons_succ, List.getElem?_cons_zero] <;> rfl) rfl ?_; simp only [Act.put, List.setIfInBounds_toArray, List.set_cons_zero, List.set_cons_succ]) | (refine Od.wpO_pure (by simp only [List.getElem?_toArray, List.getElem?_cons_succ, List.getElem?_cons_zero] <;> rfl) rfl ?_; apply Exists.intro; refine ⟨?_, ?_⟩; (· intro wx gx; obtain ⟨mx, rfl⟩ := spread_of_gr gx; clear gx; all_goals (apply Od.pAt_of_quiet; intro K hK; go_big_quiet_op; first | exact hK _ rfl | (apply Exists.intro; refine ⟨fun _ => ?_, ?_⟩; (· fail); exact hK _ rfl))); try simp only [Act.put, List.setIfInBounds_toArray, List.set_cons_zero, List.set_cons_succ]))
  refine Od.wpO_call (by simp only [List.getElem?_toArray, List.getElem?_cons_succ, List.getElem?_cons_zero] <;> rfl) rfl ?_
  intro QS hQS
  go_wp2_with fail
  go_at_call 15
  (with_reducible refine ((H3.out _ _ (Gr.trans G2.out gw5) (pts_gr PX.out gw5))).mono ?_)
  rintro e w6 ⟨rfl, hw6⟩
  go_wp2_with fail
  apply Exists.intro
  refine ⟨?_, hw6, ?_⟩
  · simp only [Act.put, List.setIfInBounds_toArray, List.set_cons_zero, List.set_cons_succ]; rfl
  have cw6_2_0 := ci hw6 (w1.heap.size + 1) 0 3 (by go_simp)
  have cw6_2_1 := cg hw6 (w1.heap.size + 1) 1 (.slice (some ⟨w1.heap.size, 0, none⟩) 2 2) (by go_simp)
  have cw6_3_0 := ci hw6 (w1.heap.size + 1 + 1 + 1) 0 4 (by go_simp)
  have cw6_3_1 := cg hw6 (w1.heap.size + 1 + 1 + 1) 1 (.slice (some ⟨w1.heap.size + 1 + 1, 0, none⟩) 4 4) (by go_simp)
  have gw6 : Gr w2 w6 := Gr.trans (by have gg := gw5; have gs := gg.size; go_grown) hw6
  clear gw5 cw5_1_0 cw5_1_1 cw5_2_0 cw5_2_1 cw5_3_0 cw5_3_1
  clear hw6
  try simp only [Act.put, List.setIfInBounds_toArray, List.set_cons_zero, List.set_cons_succ]
  repeat (first | (refine Od.wpO_skip (by simp only [List.getElem?_toArray, List.getElem?_cons_succ, List.getElem?_cons_zero] <;> rfl) rfl ?_; simp only [Act.put, List.setIfInBounds_toArray, List.set_cons_zero, List.set_cons_succ]) | (refine Od.wpO_pure (by simp only [List.getElem?_toArray, List.getElem?_cons_succ, List.getElem?_cons_zero] <;> rfl) rfl ?_; apply Exists.intro; refine ⟨?_, ?_⟩; (· intro wx gx; obtain ⟨mx, rfl⟩ := spread_of_gr gx; clear gx; all_goals (apply Od.pAt_of_quiet; intro K hK; go_big_quiet_op; first | exact hK _ rfl | (apply Exists.intro; refine ⟨fun _ => ?_, ?_⟩; (· fail); exact hK _ rfl))); try simp only [Act.put, List.setIfInBounds_toArray, List.set_cons_zero, List.set_cons_succ]))
  refine Od.wpO_call (by simp only [List.getElem?_toArray, List.getElem?_cons_succ, List.getElem?_cons_zero] <;> rfl) rfl ?_
  intro QS hQS
  go_wp2_with fail
  go_at_call 15
  (with_reducible refine ((H4.out _ _ (Gr.trans G2.out gw6) (pts_gr PY.out gw6))).mono ?_)
  rintro e w7 ⟨rfl, hw7⟩
  go_wp2_with fail
  apply Exists.intro
  refine ⟨?_, hw7, ?_⟩
  · simp only [Act.put, List.setIfInBounds_toArray, List.set_cons_zero, List.set_cons_succ]; rfl
  have cw7_2_0 := ci hw7 (w1.heap.size + 1) 0 3 (by go_simp)
  have cw7_2_1 := cg hw7 (w1.heap.size + 1) 1 (.slice (some ⟨w1.heap.size, 0, none⟩) 2 2) (by go_simp)
  have cw7_3_0 := ci hw7 (w1.heap.size + 1 + 1 + 1) 0 4 (by go_simp)
  have cw7_3_1 := cg hw7 (w1.heap.size + 1 + 1 + 1) 1 (.slice (some ⟨w1.heap.size + 1 + 1, 0, none⟩) 4 4) (by go_simp)
  have gw7 : Gr w2 w7 := Gr.trans (by have gg := gw6; have gs := gg.size; go_grown) hw7
  clear gw6 cw6_2_0 cw6_2_1 cw6_3_0 cw6_3_1
  clear hw7
  try simp only [Act.put, List.setIfInBounds_toArray, List.set_cons_zero, List.set_cons_succ]
  repeat (first | (refine Od.wpO_skip (by simp only [List.getElem?_toArray, List.getElem?_cons_succ, List.getElem?_cons_zero] <;> rfl) rfl ?_; simp only [Act.put, List.setIfInBounds_toArray, List.set_cons_zero, List.set_cons_succ]) | (refine Od.wpO_pure (by simp only [List.getElem?_toArray, List.getElem?_cons_succ, List.getElem?_cons_zero] <;> rfl) rfl ?_; apply Exists.intro; refine ⟨?_, ?_⟩; (· intro wx gx; obtain ⟨mx, rfl⟩ := spread_of_gr gx; clear gx; all_goals (apply Od.pAt_of_quiet; intro K hK; go_big_quiet_op; first | exact hK _ rfl | (apply Exists.intro; refine ⟨fun _ => ?_, ?_⟩; (· fail); exact hK _ rfl))); try simp only [Act.put, List.setIfInBounds_toArray, List.set_cons_zero, List.set_cons_succ]))
  refine Od.wpO_call (by simp only [List.getElem?_toArray, List.getElem?_cons_succ, List.getElem?_cons_zero] <;> rfl) rfl ?_
  intro QS hQS
  go_wp2_with fail
  go_at_call 17
  (with_reducible refine ((H5.out _ _ _ (Gr.trans G2.out gw7) (pts_gr PX.out gw7) (pts_gr PY.out gw7))).mono ?_)
  rintro e w8 ⟨rfl, hw8⟩
  go_wp2_with fail
  apply Exists.intro
  refine ⟨?_, hw8, ?_⟩
  · simp only [Act.put, List.setIfInBounds_toArray, List.set_cons_zero, List.set_cons_succ]; rfl
  have cw8_2_0 := ci hw8 (w1.heap.size + 1) 0 3 (by go_simp)
  have cw8_2_1 := cg hw8 (w1.heap.size + 1) 1 (.slice (some ⟨w1.heap.size, 0, none⟩) 2 2) (by go_simp)
  have cw8_3_0 := ci hw8 (w1.heap.size + 1 + 1 + 1) 0 4 (by go_simp)
  have cw8_3_1 := cg hw8 (w1.heap.size + 1 + 1 + 1) 1 (.slice (some ⟨w1.heap.size + 1 + 1, 0, none⟩) 4 4) (by go_simp)
  have gw8 : Gr w2 w8 := Gr.trans (by have gg := gw7; have gs := gg.size; go_grown) hw8
  clear gw7 cw7_2_0 cw7_2_1 cw7_3_0 cw7_3_1
  clear hw8
  try simp only [Act.put, List.setIfInBounds_toArray, List.set_cons_zero, List.set_cons_succ]
  repeat (first | (refine Od.wpO_skip (by simp only [List.getElem?_toArray, List.getElem?_cons_succ, List.getElem?_cons_zero] <;> rfl) rfl ?_; simp only [Act.put, List.setIfInBounds_toArray, List.set_cons_zero, List.set_cons_succ]) | (refine Od.wpO_pure (by simp only [List.getElem?_toArray, List.getElem?_cons_succ, List.getElem?_cons_zero] <;> rfl) rfl ?_; apply Exists.intro; refine ⟨?_, ?_⟩; (· intro wx gx; obtain ⟨mx, rfl⟩ := spread_of_gr gx; clear gx; all_goals (apply Od.pAt_of_quiet; intro K hK; go_big_quiet_op; first | exact hK _ rfl | (apply Exists.intro; refine ⟨fun _ => ?_, ?_⟩; (· fail); exact hK _ rfl))); try simp only [Act.put, List.setIfInBounds_toArray, List.set_cons_zero, List.set_cons_succ]))
  refine Od.wpO_call (by simp only [List.getElem?_toArray, List.getElem?_cons_succ, List.getElem?_cons_zero] <;> rfl) rfl ?_
  intro QS hQS
  go_wp2_with fail
  go_at_call 19
  (with_reducible refine ((H6.out _ _ _ (Gr.trans G2.out gw8) (pts_gr PX.out gw8) (pts_gr PY.out gw8))).mono ?_)
  rintro e w9 ⟨rfl, hw9⟩
  go_wp2_with fail
  apply Exists.intro
  refine ⟨?_, hw9, ?_⟩
  · simp only [Act.put, List.setIfInBounds_toArray, List.set_cons_zero, List.set_cons_succ]; rfl
  have gw9 : Gr w2 w9 := Gr.trans (by have gg := gw8; have gs := gg.size; go_grown) hw9
  clear gw8 cw8_2_0 cw8_2_1 cw8_3_0 cw8_3_1
  clear hw9
  try simp only [Act.put, List.setIfInBounds_toArray, List.set_cons_zero, List.set_cons_succ]
  repeat (first | (refine Od.wpO_skip (by simp only [List.getElem?_toArray, List.getElem?_cons_succ, List.getElem?_cons_zero] <;> rfl) rfl ?_; simp only [Act.put, List.setIfInBounds_toArray, List.set_cons_zero, List.set_cons_succ]) | (refine Od.wpO_pure (by simp only [List.getElem?_toArray, List.getElem?_cons_succ, List.getElem?_cons_zero] <;> rfl) rfl ?_; apply Exists.intro; refine ⟨?_, ?_⟩; (· intro wx gx; obtain ⟨mx, rfl⟩ := spread_of_gr gx; clear gx; all_goals (apply Od.pAt_of_quiet; intro K hK; go_big_quiet_op; first | exact hK _ rfl | (apply Exists.intro; refine ⟨fun _ => ?_, ?_⟩; (· fail); exact hK _ rfl))); try simp only [Act.put, List.setIfInBounds_toArray, List.set_cons_zero, List.set_cons_succ]))
  refine Od.wpO_call (by simp only [List.getElem?_toArray, List.getElem?_cons_succ, List.getElem?_cons_zero] <;> rfl) rfl ?_
  intro QS hQS
  go_wp2_with fail
  go_at_call 9
  (with_reducible refine ((H7.out _ (Gr.trans G2.out gw9))).mono ?_)
  rintro e wa ⟨rfl, hwa⟩
  go_wp2_with fail
  apply Exists.intro
  refine ⟨?_, hwa, ?_⟩
  · simp only [Act.put, List.setIfInBounds_toArray, List.set_cons_zero, List.set_cons_succ]; rfl
  have gwa : Gr w2 wa := Gr.trans (by have gg := gw9; have gs := gg.size; go_grown) hwa
  clear gw9
  clear hwa
  try simp only [Act.put, List.setIfInBounds_toArray, List.set_cons_zero, List.set_cons_succ]
  repeat (first | (refine Od.wpO_skip (by simp only [List.getElem?_toArray, List.getElem?_cons_succ, List.getElem?_cons_zero] <;> rfl) rfl ?_; simp only [Act.put, List.setIfInBounds_toArray, List.set_cons_zero, List.set_cons_succ]) | (refine Od.wpO_pure (by simp only [List.getElem?_toArray, List.getElem?_cons_succ, List.getElem?_cons_zero] <;> rfl) rfl ?_; apply Exists.intro; refine ⟨?_, ?_⟩; (· intro wx gx; obtain ⟨mx, rfl⟩ := spread_of_gr gx; clear gx; all_goals (apply Od.pAt_of_quiet; intro K hK; go_big_quiet_op; first | exact hK _ rfl | (apply Exists.intro; refine ⟨fun _ => ?_, ?_⟩; (· fail); exact hK _ rfl))); try simp only [Act.put, List.setIfInBounds_toArray, List.set_cons_zero, List.set_cons_succ]))
  refine Od.wpO_nil (hKQ _ _ ?_)
  clear hKQ KQ
  go_wp2_with fail
  go_ret
  exact ⟨rfl, Gr.trans G2.out gwa⟩
set_option maxHeartbeats 4000000 in
set_option maxRecDepth 100000 in
theorem same_no {m bcap n9 : Nat} {bd : Option Addr} (lx ly hx hy kq a b c d px py : Int) (W : World) (hc : n9 ≠ 0 ∨ (n9 = 0 ∧ (lx = hx ∨ ly = hy ∨ 64 < m)))
    (A0 : ∀ w, Calls Tryz.prog 25 #[.agg #[.int .i64 lx, .int .i64 ly, .int .i64 hx, .int .i64 hy]] w fun e w' => e = .returned (.int .i64 (n9 : Nat)) ∧ Gr w w')
    (A7 : ∀ w, Gr W w → Calls Tryz.prog 9 #[] w fun e w' => e = .returned (.bool true) ∧ Gr w w') :
    Calls Tryz.prog 6 #[.agg #[.int .i64 lx, .int .i64 ly, .int .i64 hx, .int .i64 hy], qryV kq a b c d (.slice bd m bcap), .agg #[.int .i64 px, .int .i64 py]] W fun e w' => e = .returned (.bool true) ∧ Gr W w' := by
  have H0 := Lib.hid A0
  have H7 := Lib.hid A7
  clear A0 A7
  by_cases h : n9 = 0
  · replace hc := hc.resolve_left (fun g => g h)
    subst h
    replace hc := hc.2
    by_cases c1 : lx = hx
    · have t5 : (lx == hx) = true := by simp; omega
      have t7 : decide (lx = hx) = true := decide_eq_true c1
      have HC := Lib.hid c1
      clear hc c1
      go_enter Tryz.func6, Tryz.ntmps6
      go_wp2_with fail
      go_at_call 25
      refine ((H0.out _)).mono ?_
      rintro e w1 ⟨rfl, hw1⟩
      have cw1_0_0 := ci hw1 (W.heap.size) 0 lx (by go_simp)
      have cw1_0_1 := ci hw1 (W.heap.size) 1 ly (by go_simp)
      have cw1_0_2 := ci hw1 (W.heap.size) 2 hx (by go_simp)
      have cw1_0_3 := ci hw1 (W.heap.size) 3 hy (by go_simp)
      have gw1 : Gr W w1 := Gr.trans (by go_grown) hw1
      clear hw1
      go_wp2_with fail
      go_at_call 9
      refine ((H7.out _ gw1)).mono ?_
      rintro e w2 ⟨rfl, hw2⟩
      have gw2 : Gr W w2 := Gr.trans (by have gg := gw1; have gs := gg.size; go_grown) hw2
      clear hw2 gw1 cw1_0_0 cw1_0_1 cw1_0_2 cw1_0_3
      go_wp2_with fail
      go_ret
      exact ⟨rfl, gw2⟩
    · have t5 : (lx == hx) = false := by simp; omega
      have t7 : decide (lx = hx) = false := decide_eq_false c1
      by_cases c2 : ly = hy
      · have t6 : (ly == hy) = true := by simp; omega
        have t8 : decide (ly = hy) = true := decide_eq_true c2
        have HC := Lib.hid c2
        clear hc c1 c2
        go_enter Tryz.func6, Tryz.ntmps6
        go_wp2_with fail
        go_at_call 25
        refine ((H0.out _)).mono ?_
        rintro e w1 ⟨rfl, hw1⟩
        have cw1_0_0 := ci hw1 (W.heap.size) 0 lx (by go_simp)
        have cw1_0_1 := ci hw1 (W.heap.size) 1 ly (by go_simp)
        have cw1_0_2 := ci hw1 (W.heap.size) 2 hx (by go_simp)
        have cw1_0_3 := ci hw1 (W.heap.size) 3 hy (by go_simp)
        have gw1 : Gr W w1 := Gr.trans (by go_grown) hw1
        clear hw1
        go_wp2_with fail
        go_at_call 9
        refine ((H7.out _ gw1)).mono ?_
        rintro e w2 ⟨rfl, hw2⟩
        have gw2 : Gr W w2 := Gr.trans (by have gg := gw1; have gs := gg.size; go_grown) hw2
        clear hw2 gw1 cw1_0_0 cw1_0_1 cw1_0_2 cw1_0_3
        go_wp2_with fail
        go_ret
        exact ⟨rfl, gw2⟩
      · have t6 : (ly == hy) = false := by simp; omega
        have t8 : decide (ly = hy) = false := decide_eq_false c2
        have t3 : decide ((64 : Int) < (m : Int)) = true := decide_eq_true (by omega)
        have t4 : decide (64 < m) = true := decide_eq_true (by omega)
        clear hc c1 c2
        go_enter Tryz.func6, Tryz.ntmps6
        go_wp2_with fail
        go_at_call 25
        refine ((H0.out _)).mono ?_
        rintro e w1 ⟨rfl, hw1⟩
        have cw1_0_0 := ci hw1 (W.heap.size) 0 lx (by go_simp)
        have cw1_0_1 := ci hw1 (W.heap.size) 1 ly (by go_simp)
        have cw1_0_2 := ci hw1 (W.heap.size) 2 hx (by go_simp)
        have cw1_0_3 := ci hw1 (W.heap.size) 3 hy (by go_simp)
        have cw1_1_5 := cg hw1 (W.heap.size + 1) 5 (.slice bd m bcap) (by go_simp)
        have gw1 : Gr W w1 := Gr.trans (by go_grown) hw1
        clear hw1
        go_wp2_with fail
        go_at_call 9
        refine ((H7.out _ gw1)).mono ?_
        rintro e w2 ⟨rfl, hw2⟩
        have gw2 : Gr W w2 := Gr.trans (by have gg := gw1; have gs := gg.size; go_grown) hw2
        clear hw2 gw1 cw1_0_0 cw1_0_1 cw1_0_2 cw1_0_3 cw1_1_5
        go_wp2_with fail
        go_ret
        exact ⟨rfl, gw2⟩
  · have e1 : ((n9 : Int) != 0) = true := by simp; omega
    have e2 : (n9 != 0) = true := by simp; omega
    clear hc h
    go_enter Tryz.func6, Tryz.ntmps6
    go_wp2_with fail
    go_at_call 25
    refine ((H0.out _)).mono ?_
    rintro e w1 ⟨rfl, hw1⟩
    have cw1_0_0 := ci hw1 (W.heap.size) 0 lx (by go_simp)
    have cw1_0_1 := ci hw1 (W.heap.size) 1 ly (by go_simp)
    have cw1_0_2 := ci hw1 (W.heap.size) 2 hx (by go_simp)
    have cw1_0_3 := ci hw1 (W.heap.size) 3 hy (by go_simp)
    have gw1 : Gr W w1 := Gr.trans (by go_grown) hw1
    clear hw1
    go_wp2_with fail
    go_at_call 9
    refine ((H7.out _ gw1)).mono ?_
    rintro e w2 ⟨rfl, hw2⟩
    have gw2 : Gr W w2 := Gr.trans (by have gg := gw1; have gs := gg.size; go_grown) hw2
    clear hw2 gw1 cw1_0_0 cw1_0_1 cw1_0_2 cw1_0_3
    go_wp2_with fail
    go_ret
    exact ⟨rfl, gw2⟩
theorem walk_RelSame (W : World) (lx ly hx hy kq a b c d : Int) (u : Value) (px py : Int) {p1 p2 : Prop} (_ : p1) (hu : ∃ (n : Nat) (X Y : Nat → Int), Pts W u n X Y) (_ : p2) (hE : ErrT W) :
    Calls Tryz.prog 6 #[.agg #[.int .i64 lx, .int .i64 ly, .int .i64 hx, .int .i64 hy], qryV kq a b c d u, .agg #[.int .i64 px, .int .i64 py]] W fun e w' => e = .returned (.bool true) ∧ Gr W w' := by
  obtain ⟨m, P, Q, hu⟩ := hu
  have A7 : ∀ w, Gr W w → Calls Tryz.prog 9 #[] w fun e w' => e = .returned (.bool true) ∧ Gr w w' := fun w g => p6_awake w (errT_gr hE g)
  have A0 := fun w => c_rCheckBox lx ly hx hy w
  rw [boxN_code] at A0
  by_cases far : boxN lx ly hx hy ≠ 0 ∨ (boxN lx ly hx hy = 0 ∧ (lx = hx ∨ ly = hy ∨ 64 < m))
  · obtain ⟨bd, bcap, _, _, rfl, -⟩ := hu
    exact same_no lx ly hx hy kq a b c d px py W far A0 A7
  have h0 : boxN lx ly hx hy = 0 := by omega
  rw [h0] at A0
  have bq := boxN_0.1 h0
  have bb := boxB_iff.1 bq
  have h1 : lx < hx := by omega
  have h2 : ly < hy := by omega
  have hm : m ≤ 64 := by omega
  have n1 := bb.1.1
  have n2 := bb.1.2
  have qk := q_ok n1 n2 h1 h2
  have ox : objC 3 2 (cX lx hx) (cX ly hy) = 0 := by rw [objC_3, if_pos rfl]; exact h0
  have oy : objC 4 4 (Rg.qX lx hx) (Rg.qY ly hy) = 0 := by rw [objC_4]; exact qk
  have em : qC kq a b c d m P Q = 0 → maA 3 2 (cX lx hx) (cX ly hy) kq a b c d m P Q = maA 4 4 (Rg.qX lx hx) (Rg.qY ly hy) kq a b c d m P Q := fun hq => by
    rw [ma_doc ox hq, ma_doc oy hq]
    unfold maD mbD bLx bLy bHx bHy
    rw [if_neg (by decide : ¬ (3 : Int) = 4), if_pos rfl, if_neg (by decide : ¬ (3 : Int) = 4), if_neg (by decide : ¬ (3 : Int) = 4), if_neg (by decide : ¬ (3 : Int) = 4), if_neg (by decide : ¬ (3 : Int) = 4), if_pos rfl, if_pos rfl, if_pos rfl, if_pos rfl, if_neg (by decide : ¬ (3 : Int) = 4), if_pos rfl, if_neg (by decide : ¬ (3 : Int) = 4), if_pos rfl]
    obtain ⟨e1, e2, e3, e4⟩ := q_bb h1 h2
    rw [e1, e2, e3, e4]
    have s1 : cX lx hx 0 = lx := rfl
    have s2 : oLy 3 (cX ly hy) = ly := rfl
    have s3 : oHx 3 (cX lx hx) (cX ly hy) = hx := rfl
    have s4 : oHy 3 (cX ly hy) = hy := rfl
    rw [s1, s2, s3, s4]
    rcases qC_cases hq with ⟨rfl, hb⟩ | ⟨rfl, hb⟩ | ⟨rfl, hb⟩ | ⟨rfl, hb⟩
    · simp only [if_pos]; exact (q_meets n1 n2 h1 h2 hb).symm
    · rfl
    · exact (q_meets n1 n2 h1 h2 (pt_box hb)).symm
    · exact (q_rings n1 n2 h1 h2 hb).symm
  have A1 : ∀ w x, Gr W w → Pts w x 2 (cX lx hx) (cX ly hy) → _ := fun w x g hx' => c_MatchG (k := 3) kq a b c d w (errT_gr hE g) hx' (pts_gr hu g)
  have A2 : ∀ w x, Gr W w → Pts w x 4 (Rg.qX lx hx) (Rg.qY ly hy) → _ := fun w x g hx' => c_MatchG (k := 4) kq a b c d w (errT_gr hE g) hx' (pts_gr hu g)
  have ez : (decide (objC 4 4 (Rg.qX lx hx) (Rg.qY ly hy) = 0) && decide (qC kq a b c d m P Q = 0) && maA 4 4 (Rg.qX lx hx) (Rg.qY ly hy) kq a b c d m P Q) = (decide (objC 3 2 (cX lx hx) (cX ly hy) = 0) && decide (qC kq a b c d m P Q = 0) && maA 3 2 (cX lx hx) (cX ly hy) kq a b c d m P Q) := by
    rw [ox, oy]
    by_cases hq : qC kq a b c d m P Q = 0
    · rw [em hq]
    · simp [hq]
  rw [ez] at A2
  have A3 : ∀ w x, Gr W w → Pts w x 2 (cX lx hx) (cX ly hy) → _ := fun w x g hx' => c_DistG (k := 3) px py w (errT_gr hE g) hx'
  have A4 : ∀ w x, Gr W w → Pts w x 4 (Rg.qX lx hx) (Rg.qY ly hy) → _ := fun w x g hx' => c_DistG (k := 4) px py w (errT_gr hE g) hx'
  have ed : dG (decide (objC 4 4 (Rg.qX lx hx) (Rg.qY ly hy) = 0) && nearB px py) (diA 4 4 (Rg.qX lx hx) (Rg.qY ly hy) px py) = dG (decide (objC 3 2 (cX lx hx) (cX ly hy) = 0) && nearB px py) (diA 3 2 (cX lx hx) (cX ly hy) px py) := by
    rw [ox, oy]
    cases hp : nearB px py
    · rfl
    · have e : diA 4 4 (Rg.qX lx hx) (Rg.qY ly hy) px py = diA 3 2 (cX lx hx) (cX ly hy) px py := by
        unfold diA
        rw [if_pos rfl, if_neg (by decide : ¬ (3 : Int) = 4)]
        exact q_far n1 n2 h1 h2 hp
      rw [e]
  rw [ed] at A4
  obtain ⟨dh, dl, dd, e⟩ := dG_val (decide (objC 3 2 (cX lx hx) (cX ly hy) = 0) && nearB px py) (diA 3 2 (cX lx hx) (cX ly hy) px py)
  rw [e] at A3 A4
  have A5 : ∀ w x y, Gr W w → Pts w x 2 (cX lx hx) (cX ly hy) → Pts w y 4 (Rg.qX lx hx) (Rg.qY ly hy) → _ := fun w x y g hx' hy' => c_TouchAny (k := 3) (j := 4) w (errT_gr hE g) hx' hy'
  have et : tcA 3 2 (cX lx hx) (cX ly hy) 4 4 (Rg.qX lx hx) (Rg.qY ly hy) = true := by
    rw [tc_doc ox oy]
    unfold tcD
    rw [if_neg (by decide : ¬ (3 : Int) = 4), if_pos rfl]
    show rmD 4 (Rg.qX lx hx) (Rg.qY ly hy) lx ly hx hy = true
    rw [q_meets n1 n2 h1 h2 bq, meV_iff bq bq]
    omega
  rw [ox, oy, et] at A5
  have A6 : ∀ w x y, Gr W w → Pts w x 2 (cX lx hx) (cX ly hy) → Pts w y 4 (Rg.qX lx hx) (Rg.qY ly hy) → _ := fun w x y g hx' hy' => c_Same (k := 3) (j := 4) false w hx' hy' (by omega) (iff_of_false (by decide) (fun h => absurd h.1 (by decide)))
  obtain ⟨bd, bcap, _, _, rfl, -⟩ := hu
  exact same_core lx ly hx hy kq a b c d px py dh dl dd _ W hm h1 h2 A0 A1 A2 A3 A4 A5 A6 A7
end Go.Proofs.YtfobmlgpjhghdaaGreatDoor
namespace Go.Proofs.YtfobmlgpjhghdaaGreatDoor.Qs
open Go.ChangeShapes Go.WideShapes
theorem laid : laidOutB Tryz.prog = true := by kernel_rfl
theorem laidP : laidOutB Tryz.pinned.checked.prog = true := laid
theorem maps : mapsRowed Tryz.pinned.checked.prog = true := by kernel_rfl
end Go.Proofs.YtfobmlgpjhghdaaGreatDoor.Qs
