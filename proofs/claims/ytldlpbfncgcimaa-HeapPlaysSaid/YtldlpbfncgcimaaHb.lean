/- heap: entries, and how they stand to each other -/
import Derived.Test.YtldlpbfncgcimaaHa
import Derived.Test.YtldlpbfncgcimaaL
import Derived.Test.YtldlpbfncgcimaaRd
import Derived.Test.YtldlpbfncgcimaaVd
import Derived.Test.YtldlpbfncgcimaaPb
namespace Go.Proofs.Ytldlpbfncgcimaa
set_option linter.unusedVariables false
open Go.ChangeShapes Go.WideShapes Go.ChangeAt Go.RowKit

/-- How things stand to each other: one order. -/
def Cmp {α : Type} (c : α → α → Int) : Prop := (∀ a b, c b a = -c a b) ∧ ∀ a b d, c a b ≤ 0 → c b d ≤ 0 → c a d ≤ 0 ∧ (c a d = 0 → c a b = 0 ∧ c b d = 0)
/-- By one, then by another. -/
def lexC {α : Type} (c d : α → α → Int) (a b : α) : Int := if c a b = 0 then d a b else c a b
theorem Cmp.zero {α : Type} {c : α → α → Int} (h : Cmp c) {a b d : α} (h1 : c a b = 0) (h2 : c b d = 0) : c a d = 0 := by
  have t1 := (h.2 a b d (by omega) (by omega)).1
  have n1 := h.1 a b
  have n2 := h.1 b d
  have n3 := h.1 a d
  have t2 := (h.2 d b a (by omega) (by omega)).1
  omega
theorem Cmp.lex {α : Type} {c d : α → α → Int} (h : Cmp c) (k : Cmp d) : Cmp (lexC c d) := by
  refine ⟨fun a b => ?_, fun a b x => ?_⟩
  · have := h.1 a b
    have := k.1 a b
    unfold lexC
    split <;> split <;> omega
  · have h0 := h.2 a b x
    have k0 := k.2 a b x
    have z := @Cmp.zero α c h a b x
    unfold lexC
    intro p q
    split at p
    · rename_i e1
      split at q
      · rename_i e2
        rw [if_pos (z e1 e2)]
        have := k0 p q
        exact ⟨this.1, fun e => by have := this.2 e; rw [if_pos e1, if_pos e2]; exact this⟩
      · rename_i e2
        have := h0 (by omega) q
        have hne : ¬ c a x = 0 := fun e => e2 (this.2 e).2
        rw [if_neg hne]
        exact ⟨this.1, fun e => absurd e hne⟩
    · rename_i e1
      have hne : ¬ c a x = 0 := by
        intro e
        have hq : c b x ≤ 0 := by split at q <;> omega
        exact e1 ((h0 p hq).2 e).1
      have hq : c b x ≤ 0 := by split at q <;> omega
      rw [if_neg hne]
      exact ⟨(h0 p hq).1, fun e => absurd e hne⟩
/-- What is ahead. -/
def ltC {α : Type} (c : α → α → Int) (a b : α) : Bool := decide (c a b < 0)
theorem Cmp.ord {α : Type} {c : α → α → Int} (h : Cmp c) : Hp.Ord (ltC c) := by
  refine ⟨fun a b e => ?_, fun a b d e f => ?_⟩
  · unfold ltC at *
    have := h.1 a b
    rw [decide_eq_true_eq] at e
    exact decide_eq_false (by omega)
  · unfold ltC at *
    rw [decide_eq_false_iff_not] at e f
    refine decide_eq_false ?_
    have n1 := h.1 a b
    have n2 := h.1 b d
    have n3 := h.1 a d
    have := (h.2 d b a (by omega) (by omega)).1
    omega
theorem cmpZ_le0 (a b : Int) : cmpZ a b ≤ 0 ↔ a ≤ b := by unfold cmpZ; split <;> (try split) <;> omega
theorem cmpZ_0 (a b : Int) : cmpZ a b = 0 ↔ a = b := by unfold cmpZ; split <;> (try split) <;> omega
theorem cmpZ_neg (a b : Int) : cmpZ b a = -cmpZ a b := by unfold cmpZ; split <;> split <;> (try split) <;> omega
theorem cmpZ_Cmp {α : Type} (f : α → Int) : Cmp (fun a b => cmpZ (f a) (f b)) := by
  refine ⟨fun a b => cmpZ_neg _ _, fun a b d => ?_⟩
  show cmpZ (f a) (f b) ≤ 0 → cmpZ (f b) (f d) ≤ 0 → cmpZ (f a) (f d) ≤ 0 ∧ (cmpZ (f a) (f d) = 0 → cmpZ (f a) (f b) = 0 ∧ cmpZ (f b) (f d) = 0)
  simp only [cmpZ_le0, cmpZ_0]
  omega

/-- What waits. -/
structure En where
  id : Int
  hi : Nat
  lo : Nat
  den : Nat
  item : Bool
  node : Int
def En.ok (a : En) : Prop := (-9223372036854775808 ≤ a.id ∧ a.id ≤ 9223372036854775807) ∧ Wd a.hi ∧ Wd a.lo ∧ Wd a.den ∧ (-9223372036854775808 ≤ a.node ∧ a.node ≤ 9223372036854775807)
def En.cs (a : En) : List Value := [.int .i64 a.id, .int .u64 a.hi, .int .u64 a.lo, .int .u64 a.den, .bool a.item, .int .i64 a.node]
def En.kind (a : En) : Int := if a.item then 1 else 0
def En.num (a : En) : Int := if a.item then a.id else a.node
/-- How two stand to each other: by distance, then by kind, then by number. -/
def cmpE : En → En → Int := lexC (fun a b => cmpD (val a.hi a.lo) a.den (val b.hi b.lo) b.den) (lexC (fun a b => cmpZ a.kind b.kind) (fun a b => cmpZ a.num b.num))
theorem cmpE_Cmp : Cmp cmpE :=
  Cmp.lex ⟨fun a b => cmpD_neg .., fun a b d h k => cmpD_trans h k⟩ (Cmp.lex (cmpZ_Cmp _) (cmpZ_Cmp _))
set_option maxHeartbeats 1000000 in
set_option maxRecDepth 100000 in
theorem c_kind (ai ah al ad : Int) (ab : Bool) (an : Int) (w : World) :
    Calls Try.prog 46 #[.agg #[.int .i64 ai, .int .u64 ah, .int .u64 al, .int .u64 ad, .bool ab, .int .i64 an]] w fun e w' => e = .returned (.int .i64 (if ab then 1 else 0)) ∧ Gr w w' := by
  cases ab
  all_goals
    go_enter Try.func46, Try.ntmps46
    go_wp2_with fail
    go_ret
    exact ⟨rfl, by go_grown⟩
set_option maxHeartbeats 1000000 in
set_option maxRecDepth 100000 in
theorem c_number (ai ah al ad : Int) (ab : Bool) (an : Int) (w : World) :
    Calls Try.prog 47 #[.agg #[.int .i64 ai, .int .u64 ah, .int .u64 al, .int .u64 ad, .bool ab, .int .i64 an]] w fun e w' => e = .returned (.int .i64 (if ab then ai else an)) ∧ Gr w w' := by
  cases ab
  all_goals
    go_enter Try.func47, Try.ntmps47
    go_wp2_with fail
    go_ret
    exact ⟨rfl, by go_grown⟩
set_option maxHeartbeats 4000000 in
set_option maxRecDepth 100000 in
theorem from_core (ai ah al ad : Int) (ab : Bool) (an : Int) (bi bh bl bd : Int) (bb : Bool) (bn : Int) (d k n r ka kb na nb : Int) (W : World)
    (A1 : ∀ w, Calls Try.prog 44 #[.agg #[.int .u64 ah, .int .u64 al, .int .u64 ad], .agg #[.int .u64 bh, .int .u64 bl, .int .u64 bd]] w fun e w' => e = .returned (.int .i64 d) ∧ Gr w w')
    (A2 : ∀ w, Calls Try.prog 46 #[.agg #[.int .i64 ai, .int .u64 ah, .int .u64 al, .int .u64 ad, .bool ab, .int .i64 an]] w fun e w' => e = .returned (.int .i64 ka) ∧ Gr w w')
    (A3 : ∀ w, Calls Try.prog 46 #[.agg #[.int .i64 bi, .int .u64 bh, .int .u64 bl, .int .u64 bd, .bool bb, .int .i64 bn]] w fun e w' => e = .returned (.int .i64 kb) ∧ Gr w w')
    (A4 : ∀ w, Calls Try.prog 45 #[.int .i64 ka, .int .i64 kb] w fun e w' => e = .returned (.int .i64 k) ∧ Gr w w')
    (A5 : ∀ w, Calls Try.prog 47 #[.agg #[.int .i64 ai, .int .u64 ah, .int .u64 al, .int .u64 ad, .bool ab, .int .i64 an]] w fun e w' => e = .returned (.int .i64 na) ∧ Gr w w')
    (A6 : ∀ w, Calls Try.prog 47 #[.agg #[.int .i64 bi, .int .u64 bh, .int .u64 bl, .int .u64 bd, .bool bb, .int .i64 bn]] w fun e w' => e = .returned (.int .i64 nb) ∧ Gr w w')
    (A7 : ∀ w, Calls Try.prog 45 #[.int .i64 na, .int .i64 nb] w fun e w' => e = .returned (.int .i64 n) ∧ Gr w w')
    (h : (r = d ∧ (d != 0) = true) ∨ (d = 0 ∧ r = k ∧ (k != 0) = true) ∨ (d = 0 ∧ k = 0 ∧ r = n)) :
    Calls Try.prog 40 #[.int .i64 0, .agg #[.int .i64 ai, .int .u64 ah, .int .u64 al, .int .u64 ad, .bool ab, .int .i64 an], .agg #[.int .i64 bi, .int .u64 bh, .int .u64 bl, .int .u64 bd, .bool bb, .int .i64 bn]] W fun e w' => e = .returned (.int .i64 r) ∧ Gr W w' := by
  have H1 := Lib.hid A1
  have H2 := Lib.hid A2
  have H3 := Lib.hid A3
  have H4 := Lib.hid A4
  have H5 := Lib.hid A5
  have H6 := Lib.hid A6
  have H7 := Lib.hid A7
  clear A1 A2 A3 A4 A5 A6 A7
  rcases h with ⟨rfl, t⟩ | ⟨rfl, rfl, t⟩ | ⟨rfl, rfl, rfl⟩
  · go_enter Try.func40, Try.ntmps40
    go_wp2_with fail
    go_at_call 44
    refine ((H1.out _)).mono ?_
    rintro e w1 ⟨rfl, hw1⟩
    have gw1 : Gr W w1 := Gr.trans (by go_grown) hw1
    clear hw1
    go_wp2_with fail
    go_ret
    exact ⟨rfl, gw1⟩
  · go_enter Try.func40, Try.ntmps40
    go_wp2_with fail
    go_at_call 44
    refine ((H1.out _)).mono ?_
    rintro e w1 ⟨rfl, hw1⟩
    have cw1_0_0 : w1.cell? ⟨W.heap.size, 0, none⟩ = some (.int .i64 ai) := cell_gr hw1 (by go_simp)
    have cw1_0_1 : w1.cell? ⟨W.heap.size, 1, none⟩ = some (.int .u64 ah) := cell_gr hw1 (by go_simp)
    have cw1_0_2 : w1.cell? ⟨W.heap.size, 2, none⟩ = some (.int .u64 al) := cell_gr hw1 (by go_simp)
    have cw1_0_3 : w1.cell? ⟨W.heap.size, 3, none⟩ = some (.int .u64 ad) := cell_gr hw1 (by go_simp)
    have cw1_0_4 : w1.cell? ⟨W.heap.size, 4, none⟩ = some (.bool ab) := cell_gr hw1 (by go_simp)
    have cw1_0_5 : w1.cell? ⟨W.heap.size, 5, none⟩ = some (.int .i64 an) := cell_gr hw1 (by go_simp)
    have zw1_0 : W.heap.size < w1.heap.size := World.block_lt_of_cell? _ _ cw1_0_0
    have cw1_1_0 : w1.cell? ⟨W.heap.size + 1, 0, none⟩ = some (.int .i64 bi) := cell_gr hw1 (by go_simp)
    have cw1_1_1 : w1.cell? ⟨W.heap.size + 1, 1, none⟩ = some (.int .u64 bh) := cell_gr hw1 (by go_simp)
    have cw1_1_2 : w1.cell? ⟨W.heap.size + 1, 2, none⟩ = some (.int .u64 bl) := cell_gr hw1 (by go_simp)
    have cw1_1_3 : w1.cell? ⟨W.heap.size + 1, 3, none⟩ = some (.int .u64 bd) := cell_gr hw1 (by go_simp)
    have cw1_1_4 : w1.cell? ⟨W.heap.size + 1, 4, none⟩ = some (.bool bb) := cell_gr hw1 (by go_simp)
    have cw1_1_5 : w1.cell? ⟨W.heap.size + 1, 5, none⟩ = some (.int .i64 bn) := cell_gr hw1 (by go_simp)
    have zw1_1 : W.heap.size + 1 < w1.heap.size := World.block_lt_of_cell? _ _ cw1_1_0
    have gw1 : Gr W w1 := Gr.trans (by go_grown) hw1
    clear hw1
    go_wp2_with fail
    refine wp_region_spread (by kernel_rfl) (by kernel_rfl) ?_
    try simp only [List.append]
    repeat (first | go_big_quiet_skip | (go_big_quiet_want; go_big_quiet_op; (first | go_big_quiet_on | (apply Exists.intro; refine ⟨fun _ => ?_, ?_⟩; (· (first | (go_at_call 46; first | ((with_reducible refine ((H2.out _)).mono ?_); rintro e w' ⟨rfl, hg⟩; exact ⟨rfl, spread_gr hg⟩) | ((with_reducible refine ((H3.out _)).mono ?_); rintro e w' ⟨rfl, hg⟩; exact ⟨rfl, spread_gr hg⟩)) | (go_at_call 45; first | ((with_reducible refine ((H4.out _)).mono ?_); rintro e w' ⟨rfl, hg⟩; exact ⟨rfl, spread_gr hg⟩)))); go_big_quiet_on))))
    refine wpQuiet_nil ?_
    intro wr hr
    obtain ⟨mr, rfl⟩ := hr
    go_wp2_with fail
    go_ret
    exact ⟨rfl, Gr.trans gw1 (gr_spread _ _)⟩
  · go_enter Try.func40, Try.ntmps40
    go_wp2_with fail
    go_at_call 44
    refine ((H1.out _)).mono ?_
    rintro e w1 ⟨rfl, hw1⟩
    have cw1_0_0 : w1.cell? ⟨W.heap.size, 0, none⟩ = some (.int .i64 ai) := cell_gr hw1 (by go_simp)
    have cw1_0_1 : w1.cell? ⟨W.heap.size, 1, none⟩ = some (.int .u64 ah) := cell_gr hw1 (by go_simp)
    have cw1_0_2 : w1.cell? ⟨W.heap.size, 2, none⟩ = some (.int .u64 al) := cell_gr hw1 (by go_simp)
    have cw1_0_3 : w1.cell? ⟨W.heap.size, 3, none⟩ = some (.int .u64 ad) := cell_gr hw1 (by go_simp)
    have cw1_0_4 : w1.cell? ⟨W.heap.size, 4, none⟩ = some (.bool ab) := cell_gr hw1 (by go_simp)
    have cw1_0_5 : w1.cell? ⟨W.heap.size, 5, none⟩ = some (.int .i64 an) := cell_gr hw1 (by go_simp)
    have zw1_0 : W.heap.size < w1.heap.size := World.block_lt_of_cell? _ _ cw1_0_0
    have cw1_1_0 : w1.cell? ⟨W.heap.size + 1, 0, none⟩ = some (.int .i64 bi) := cell_gr hw1 (by go_simp)
    have cw1_1_1 : w1.cell? ⟨W.heap.size + 1, 1, none⟩ = some (.int .u64 bh) := cell_gr hw1 (by go_simp)
    have cw1_1_2 : w1.cell? ⟨W.heap.size + 1, 2, none⟩ = some (.int .u64 bl) := cell_gr hw1 (by go_simp)
    have cw1_1_3 : w1.cell? ⟨W.heap.size + 1, 3, none⟩ = some (.int .u64 bd) := cell_gr hw1 (by go_simp)
    have cw1_1_4 : w1.cell? ⟨W.heap.size + 1, 4, none⟩ = some (.bool bb) := cell_gr hw1 (by go_simp)
    have cw1_1_5 : w1.cell? ⟨W.heap.size + 1, 5, none⟩ = some (.int .i64 bn) := cell_gr hw1 (by go_simp)
    have zw1_1 : W.heap.size + 1 < w1.heap.size := World.block_lt_of_cell? _ _ cw1_1_0
    have gw1 : Gr W w1 := Gr.trans (by go_grown) hw1
    clear hw1
    go_wp2_with fail
    go_wp2_with fail
    refine wp_region_spread (by kernel_rfl) (by kernel_rfl) ?_
    try simp only [List.append]
    repeat (first | go_big_quiet_skip | (go_big_quiet_want; go_big_quiet_op; (first | go_big_quiet_on | (apply Exists.intro; refine ⟨fun _ => ?_, ?_⟩; (· (first | (go_at_call 46; first | ((with_reducible refine ((H2.out _)).mono ?_); rintro e w' ⟨rfl, hg⟩; exact ⟨rfl, spread_gr hg⟩) | ((with_reducible refine ((H3.out _)).mono ?_); rintro e w' ⟨rfl, hg⟩; exact ⟨rfl, spread_gr hg⟩)) | (go_at_call 45; first | ((with_reducible refine ((H4.out _)).mono ?_); rintro e w' ⟨rfl, hg⟩; exact ⟨rfl, spread_gr hg⟩)))); go_big_quiet_on))))
    refine wpQuiet_nil ?_
    intro w2 hhw2
    have hw2 := Hd.gr_of_spread hhw2
    have cw2_0_0 : w2.cell? ⟨W.heap.size, 0, none⟩ = some (.int .i64 ai) := cell_gr hw2 (by go_simp)
    have cw2_0_1 : w2.cell? ⟨W.heap.size, 1, none⟩ = some (.int .u64 ah) := cell_gr hw2 (by go_simp)
    have cw2_0_2 : w2.cell? ⟨W.heap.size, 2, none⟩ = some (.int .u64 al) := cell_gr hw2 (by go_simp)
    have cw2_0_3 : w2.cell? ⟨W.heap.size, 3, none⟩ = some (.int .u64 ad) := cell_gr hw2 (by go_simp)
    have cw2_0_4 : w2.cell? ⟨W.heap.size, 4, none⟩ = some (.bool ab) := cell_gr hw2 (by go_simp)
    have cw2_0_5 : w2.cell? ⟨W.heap.size, 5, none⟩ = some (.int .i64 an) := cell_gr hw2 (by go_simp)
    have zw2_0 : W.heap.size < w2.heap.size := World.block_lt_of_cell? _ _ cw2_0_0
    have cw2_1_0 : w2.cell? ⟨W.heap.size + 1, 0, none⟩ = some (.int .i64 bi) := cell_gr hw2 (by go_simp)
    have cw2_1_1 : w2.cell? ⟨W.heap.size + 1, 1, none⟩ = some (.int .u64 bh) := cell_gr hw2 (by go_simp)
    have cw2_1_2 : w2.cell? ⟨W.heap.size + 1, 2, none⟩ = some (.int .u64 bl) := cell_gr hw2 (by go_simp)
    have cw2_1_3 : w2.cell? ⟨W.heap.size + 1, 3, none⟩ = some (.int .u64 bd) := cell_gr hw2 (by go_simp)
    have cw2_1_4 : w2.cell? ⟨W.heap.size + 1, 4, none⟩ = some (.bool bb) := cell_gr hw2 (by go_simp)
    have cw2_1_5 : w2.cell? ⟨W.heap.size + 1, 5, none⟩ = some (.int .i64 bn) := cell_gr hw2 (by go_simp)
    have zw2_1 : W.heap.size + 1 < w2.heap.size := World.block_lt_of_cell? _ _ cw2_1_0
    have gw2 : Gr W w2 := Gr.trans (by have gg := gw1; have gs := gg.size; go_grown) hw2
    clear hw2 hhw2 gw1 zw1_0 cw1_0_0 cw1_0_1 cw1_0_2 cw1_0_3 cw1_0_4 cw1_0_5 zw1_1 cw1_1_0 cw1_1_1 cw1_1_2 cw1_1_3 cw1_1_4 cw1_1_5
    go_wp2_with fail
    refine wp_region_spread (by kernel_rfl) (by kernel_rfl) ?_
    try simp only [List.append]
    repeat (first | go_big_quiet_skip | (go_big_quiet_want; go_big_quiet_op; (first | go_big_quiet_on | (apply Exists.intro; refine ⟨fun _ => ?_, ?_⟩; (· (first | (go_at_call 47; first | ((with_reducible refine ((H5.out _)).mono ?_); rintro e w' ⟨rfl, hg⟩; exact ⟨rfl, spread_gr hg⟩) | ((with_reducible refine ((H6.out _)).mono ?_); rintro e w' ⟨rfl, hg⟩; exact ⟨rfl, spread_gr hg⟩)) | (go_at_call 45; first | ((with_reducible refine ((H7.out _)).mono ?_); rintro e w' ⟨rfl, hg⟩; exact ⟨rfl, spread_gr hg⟩)))); go_big_quiet_on))))
    refine wpQuiet_nil ?_
    intro wr hr
    obtain ⟨mr, rfl⟩ := hr
    go_wp2_with fail
    go_ret
    exact ⟨rfl, Gr.trans gw2 (gr_spread _ _)⟩
end Go.Proofs.Ytldlpbfncgcimaa
