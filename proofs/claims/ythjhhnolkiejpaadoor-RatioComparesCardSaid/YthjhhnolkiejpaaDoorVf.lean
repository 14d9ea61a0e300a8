/- RatioOrder -/
import Derived.Test.YthjhhnolkiejpaaDoorVe
import Derived.Test.YthjhhnolkiejpaaDoorRf
namespace Go.Proofs.YthjhhnolkiejpaaDoor
set_option linter.unusedVariables false
open Go.ChangeShapes Go.WideShapes Go.ChangeAt Go.RowKit

theorem dec_digit (u : Nat) : ∀ x ∈ Lib.decDigits u, 48 ≤ x.toNat ∧ x.toNat ≤ 57 := by
  induction u using Nat.strongRecOn with
  | ind u ih =>
    intro x hx
    rw [Lib.decDigits] at hx
    split at hx
    · rw [List.mem_singleton] at hx
      subst hx
      rw [UInt8.toNat_ofNat']
      omega
    · rw [List.mem_append, List.mem_singleton] at hx
      rcases hx with hx | hx
      · exact ih (u / 10) (by omega) x hx
      · subst hx
        rw [UInt8.toNat_ofNat']
        omega
theorem dec_ne (u : Nat) : Lib.decDigits u ≠ [] := by
  rw [Lib.decDigits]
  split <;> simp
theorem u8_inj {a b : Nat} (ha : a < 256) (hb : b < 256) (h : UInt8.ofNat a = UInt8.ofNat b) : a = b := by
  have := congrArg UInt8.toNat h
  rw [UInt8.toNat_ofNat', UInt8.toNat_ofNat'] at this
  omega
theorem dec_inj : ∀ (u v : Nat), Lib.decDigits u = Lib.decDigits v → u = v := by
  intro u
  induction u using Nat.strongRecOn with
  | ind u ih =>
    intro v h
    rw [Lib.decDigits, Lib.decDigits.eq_def v] at h
    split at h <;> split at h
    · rw [List.cons.injEq] at h
      have := u8_inj (by omega) (by omega) h.1
      omega
    · exfalso
      have hl := congrArg List.length h
      have := List.length_pos_iff.2 (dec_ne (v / 10))
      rw [List.length_append, List.length_singleton, List.length_singleton] at hl
      omega
    · exfalso
      have hl := congrArg List.length h
      have := List.length_pos_iff.2 (dec_ne (u / 10))
      rw [List.length_append, List.length_singleton, List.length_singleton] at hl
      omega
    · have hh := List.append_inj' h rfl
      have e1 := ih (u / 10) (by omega) (v / 10) hh.1
      have e2 := hh.2
      rw [List.cons.injEq] at e2
      have := u8_inj (by omega) (by omega) e2.1
      omega
theorem split_at {A A' B B' : List UInt8} (hA : ∀ x ∈ A, x ≠ 47) (hA' : ∀ x ∈ A', x ≠ 47) (h : A ++ 47 :: B = A' ++ 47 :: B') : A = A' ∧ B = B' := by
  induction A generalizing A' with
  | nil =>
    cases A' with
    | nil => simpa using h
    | cons a A' =>
      rw [List.nil_append, List.cons_append, List.cons.injEq] at h
      exact absurd h.1.symm (hA' a (by simp))
  | cons a A ih =>
    cases A' with
    | nil =>
      rw [List.nil_append, List.cons_append, List.cons.injEq] at h
      exact absurd h.1 (hA a (by simp))
    | cons b A' =>
      rw [List.cons_append, List.cons_append, List.cons.injEq] at h
      have := ih (fun x hx => hA x (List.mem_cons_of_mem _ hx)) (fun x hx => hA' x (List.mem_cons_of_mem _ hx)) h.2
      exact ⟨by rw [h.1, this.1], this.2⟩
theorem dec_no47 (u : Nat) : ∀ x ∈ Lib.decDigits u, x ≠ 47 := by
  intro x hx e
  have := dec_digit u x hx
  rw [e] at this
  have h47 : (47 : UInt8).toNat = 47 := rfl
  omega
theorem txt_inj {n d m e : Nat} (h : txt n d = txt m e) : lowN n d = lowN m e ∧ lowD n d = lowD m e := by
  unfold txt at h
  by_cases h1 : lowD n d = 1
  · rw [if_pos h1] at h
    by_cases h2 : lowD m e = 1
    · rw [if_pos h2] at h
      exact ⟨dec_inj _ _ h, by rw [h1, h2]⟩
    · rw [if_neg h2] at h
      exact absurd rfl (dec_no47 (lowN n d) 47 (by rw [h]; simp))
  · rw [if_neg h1] at h
    by_cases h2 : lowD m e = 1
    · rw [if_pos h2] at h
      exact absurd rfl (dec_no47 (lowN m e) 47 (by rw [← h]; simp))
    · rw [if_neg h2] at h
      have := split_at (dec_no47 _) (dec_no47 _) h
      exact ⟨dec_inj _ _ this.1, dec_inj _ _ this.2⟩
theorem low_eq {n d m e : Nat} (hd : 0 < d) (he : 0 < e) : (lowN n d = lowN m e ∧ lowD n d = lowD m e) ↔ n * e = m * d := by
  constructor
  · rintro ⟨h1, h2⟩
    have c1 := low_cross n d hd
    have c2 := low_cross m e he
    have hp := (low_parts n d hd).2.2.2
    rw [← h1, ← h2] at c2
    generalize lowN n d = a at *
    generalize lowD n d = b at *
    have : (n * e) * b = (m * d) * b := by
      calc (n * e) * b = (n * b) * e := by grind
        _ = a * d * e := by rw [c1]
        _ = (m * b) * d := by rw [c2]; grind
        _ = (m * d) * b := by grind
    exact Nat.eq_of_mul_eq_mul_right hp this
  · intro h
    have s1 := low_scale n d e hd he
    have s2 := low_scale m e d he hd
    rw [h] at s1
    rw [Nat.mul_comm e d] at s2
    exact ⟨s1.1.symm.trans s2.1, s1.2.symm.trans s2.2⟩
theorem txt_iff {n d m e : Nat} (hd : 0 < d) (he : 0 < e) : txt n d = txt m e ↔ n * e = m * d := by
  constructor
  · intro h
    exact (low_eq hd he).1 (txt_inj h)
  · intro h
    have := (low_eq hd he).2 h
    unfold txt
    rw [this.1, this.2]
/-- Text's answer, of any distance. -/
def txtD (n d : Nat) : List UInt8 := if d = 0 then [110, 111, 110, 101] else txt n d
theorem txt_not_none (n d : Nat) : txt n d ≠ [110, 111, 110, 101] := by
  intro h
  have key : ∀ u (t : List UInt8), Lib.decDigits u ++ t ≠ [110, 111, 110, 101] := by
    intro u t g
    have hu := dec_ne u
    have hd := dec_digit u
    cases hl : Lib.decDigits u with
    | nil => exact hu hl
    | cons a l =>
      rw [hl] at g hd
      rw [List.cons_append, List.cons.injEq] at g
      have := hd a (by simp)
      rw [g.1] at this
      have h110 : (110 : UInt8).toNat = 110 := rfl
      omega
  unfold txt at h
  split at h
  · exact key _ [] (by rw [List.append_nil]; exact h)
  · exact key _ _ h
theorem txtD_iff (n d m e : Nat) : (cmpD n d m e == 0) = decide (txtD n d = txtD m e) := by
  rw [Bool.eq_iff_iff, beq_iff_eq, decide_eq_true_eq]
  unfold cmpD txtD
  by_cases h1 : d = 0
  · rw [if_pos h1, if_pos h1]
    by_cases h2 : e = 0
    · rw [if_pos h2, if_pos h2]; simp
    · rw [if_neg h2, if_neg h2]
      constructor
      · intro h; simp at h
      · intro h; exact absurd h.symm (txt_not_none _ _)
  · rw [if_neg h1, if_neg h1]
    by_cases h2 : e = 0
    · rw [if_pos h2, if_pos h2]
      constructor
      · intro h; simp at h
      · intro h; exact absurd h (txt_not_none _ _)
    · rw [if_neg h2, if_neg h2, txt_iff (by omega) (by omega)]
      unfold cmpN
      split
      · constructor
        · intro h; simp at h
        · intro h; omega
      · split
        · constructor
          · intro h; simp at h
          · intro h; omega
        · constructor
          · intro h; omega
          · intro h; rfl
theorem c_rtTextD (h l d : Nat) (h1 : Wd h) (h2 : Wd l) (h3 : Wd d) (W : World) (hp : Lib.TabIs Tryd.prog W "internal/strconv.uint64pow10" .u64 Lib.pow10Tab) :
    Calls Tryd.prog 28 #[.agg #[.int .u64 h, .int .u64 l, .int .u64 d]] W fun e w' => e = .returned (.string ⟨(txtD (val h l) d).toArray⟩) ∧ Gr W w' := by
  unfold txtD
  by_cases hd : d = 0
  · subst hd
    rw [if_pos rfl]
    exact c_rtText0 h l W
  · rw [if_neg hd]
    exact c_rtText h l d h1 h2 h3 hd W hp
theorem eq_str (x y : List UInt8) : ((⟨x.toArray⟩ : ByteArray).toList == (⟨y.toArray⟩ : ByteArray).toList) = decide (x = y) := by
  rw [ByteArray.toList_eq, ByteArray.toList_eq]
  rw [Bool.eq_iff_iff, beq_iff_eq, decide_eq_true_eq]
set_option maxHeartbeats 4000000 in
set_option maxRecDepth 100000 in
theorem order_core (ah al ad bh bl bd ch cl cd : Nat) (x y k2 k3 : Int) (s t : ByteArray) (eb : Bool) (W : World) (hp : Lib.TabIs Tryd.prog W "internal/strconv.uint64pow10" .u64 Lib.pow10Tab)
    (n1 : -y = x) (n2 : wrap64 x = x) (n3 : IntKind.i64.wrap x = x) (z1 : (x == 0) = eb)
    (E : (s.toList == t.toList) = eb)
    (hc : (decide (0 < x) = true) ∨ (decide (0 < x) = false ∧ decide (0 < k2) = true) ∨ (decide (0 < x) = false ∧ decide (0 < k2) = false ∧ decide (k3 ≤ 0) = true))
    (A1 : ∀ w, Calls Tryd.prog 27 #[.agg #[.int .u64 ah, .int .u64 al, .int .u64 ad], .agg #[.int .u64 bh, .int .u64 bl, .int .u64 bd]] w fun e w' => e = .returned (.int .i64 x) ∧ Gr w w')
    (A2 : ∀ w, Calls Tryd.prog 27 #[.agg #[.int .u64 bh, .int .u64 bl, .int .u64 bd], .agg #[.int .u64 ah, .int .u64 al, .int .u64 ad]] w fun e w' => e = .returned (.int .i64 y) ∧ Gr w w')
    (A3 : ∀ w, Calls Tryd.prog 27 #[.agg #[.int .u64 ah, .int .u64 al, .int .u64 ad], .agg #[.int .u64 ah, .int .u64 al, .int .u64 ad]] w fun e w' => e = .returned (.int .i64 0) ∧ Gr w w')
    (A4 : ∀ w, Gr W w → Calls Tryd.prog 28 #[.agg #[.int .u64 ah, .int .u64 al, .int .u64 ad]] w fun e w' => e = .returned (.string s) ∧ Gr w w')
    (A5 : ∀ w, Gr W w → Calls Tryd.prog 28 #[.agg #[.int .u64 bh, .int .u64 bl, .int .u64 bd]] w fun e w' => e = .returned (.string t) ∧ Gr w w')
    (A6 : ∀ w, Calls Tryd.prog 27 #[.agg #[.int .u64 bh, .int .u64 bl, .int .u64 bd], .agg #[.int .u64 ch, .int .u64 cl, .int .u64 cd]] w fun e w' => e = .returned (.int .i64 k2) ∧ Gr w w')
    (A7 : ∀ w, Calls Tryd.prog 27 #[.agg #[.int .u64 ah, .int .u64 al, .int .u64 ad], .agg #[.int .u64 ch, .int .u64 cl, .int .u64 cd]] w fun e w' => e = .returned (.int .i64 k3) ∧ Gr w w') :
    Calls Tryd.prog 6 #[.agg #[.int .u64 ah, .int .u64 al, .int .u64 ad], .agg #[.int .u64 bh, .int .u64 bl, .int .u64 bd], .agg #[.int .u64 ch, .int .u64 cl, .int .u64 cd]] W fun e w' => e = .returned (.bool true) ∧ Gr W w' := by
  have AW : ∀ w, Gr W w → Calls Tryd.prog 25 #[] w fun e w' => e = .returned (.bool true) ∧ Gr w w' := fun w g => p2_awake w (tab_below hp g)
  have HAW := Lib.hid AW
  clear AW hp
  have H1 := Lib.hid A1
  have H2 := Lib.hid A2
  have H3 := Lib.hid A3
  have H4 := Lib.hid A4
  have H5 := Lib.hid A5
  have H6 := Lib.hid A6
  have H7 := Lib.hid A7
  clear A1 A2 A3 A4 A5 A6 A7
  cases eb <;> rcases hc with c1 | ⟨c1, c2⟩ | ⟨c1, c2, c3⟩
  · go_enter Tryd.func6, Tryd.ntmps6
    go_wp2_with fail
    go_at_call 27
    refine ((H1.out _)).mono ?_
    rintro e w1 ⟨rfl, hw1⟩
    have cw1_0_0 : w1.cell? ⟨W.heap.size, 0, none⟩ = some (.int .u64 ah) := cell_gr hw1 (by go_simp)
    have cw1_0_1 : w1.cell? ⟨W.heap.size, 1, none⟩ = some (.int .u64 al) := cell_gr hw1 (by go_simp)
    have cw1_0_2 : w1.cell? ⟨W.heap.size, 2, none⟩ = some (.int .u64 ad) := cell_gr hw1 (by go_simp)
    have zw1_0 : W.heap.size < w1.heap.size := World.block_lt_of_cell? _ _ cw1_0_0
    have cw1_1_0 : w1.cell? ⟨W.heap.size + 1, 0, none⟩ = some (.int .u64 bh) := cell_gr hw1 (by go_simp)
    have cw1_1_1 : w1.cell? ⟨W.heap.size + 1, 1, none⟩ = some (.int .u64 bl) := cell_gr hw1 (by go_simp)
    have cw1_1_2 : w1.cell? ⟨W.heap.size + 1, 2, none⟩ = some (.int .u64 bd) := cell_gr hw1 (by go_simp)
    have zw1_1 : W.heap.size + 1 < w1.heap.size := World.block_lt_of_cell? _ _ cw1_1_0
    have cw1_2_0 : w1.cell? ⟨W.heap.size + 1 + 1, 0, none⟩ = some (.int .u64 ch) := cell_gr hw1 (by go_simp)
    have cw1_2_1 : w1.cell? ⟨W.heap.size + 1 + 1, 1, none⟩ = some (.int .u64 cl) := cell_gr hw1 (by go_simp)
    have cw1_2_2 : w1.cell? ⟨W.heap.size + 1 + 1, 2, none⟩ = some (.int .u64 cd) := cell_gr hw1 (by go_simp)
    have zw1_2 : W.heap.size + 1 + 1 < w1.heap.size := World.block_lt_of_cell? _ _ cw1_2_0
    have gw1 : Gr W w1 := Gr.trans (by go_grown) hw1
    clear hw1
    go_wp2_with fail
    refine wp_region_spread (by kernel_rfl) (by kernel_rfl) ?_
    try simp only [List.append]
    repeat (first | go_big_quiet_skip | (go_big_quiet_want; go_big_quiet_op; (first | go_big_quiet_on | (apply Exists.intro; refine ⟨fun _ => ?_, ?_⟩; (· (first | (go_at_call 27; first | ((with_reducible refine ((H2.out _)).mono ?_); rintro e w' ⟨rfl, hg⟩; exact ⟨rfl, spread_gr hg⟩) | ((with_reducible refine ((H3.out _)).mono ?_); rintro e w' ⟨rfl, hg⟩; exact ⟨rfl, spread_gr hg⟩)) | (go_at_call 28; first | ((with_reducible refine ((H4.out _ (Gr.trans (by have gg := gw1; have gs := gg.size; go_grown) (gr_spread _ _)))).mono ?_); rintro e w' ⟨rfl, hg⟩; exact ⟨rfl, spread_gr hg⟩) | ((with_reducible refine ((H5.out _ (Gr.trans (by have gg := gw1; have gs := gg.size; go_grown) (gr_spread _ _)))).mono ?_); rintro e w' ⟨rfl, hg⟩; exact ⟨rfl, spread_gr hg⟩)))); go_big_quiet_on))))
    refine wpQuiet_nil ?_
    intro w2 hhw2
    have hw2 := Hd.gr_of_spread hhw2
    have cw2_0_0 : w2.cell? ⟨W.heap.size, 0, none⟩ = some (.int .u64 ah) := cell_gr hw2 (by go_simp)
    have cw2_0_1 : w2.cell? ⟨W.heap.size, 1, none⟩ = some (.int .u64 al) := cell_gr hw2 (by go_simp)
    have cw2_0_2 : w2.cell? ⟨W.heap.size, 2, none⟩ = some (.int .u64 ad) := cell_gr hw2 (by go_simp)
    have zw2_0 : W.heap.size < w2.heap.size := World.block_lt_of_cell? _ _ cw2_0_0
    have cw2_1_0 : w2.cell? ⟨W.heap.size + 1, 0, none⟩ = some (.int .u64 bh) := cell_gr hw2 (by go_simp)
    have cw2_1_1 : w2.cell? ⟨W.heap.size + 1, 1, none⟩ = some (.int .u64 bl) := cell_gr hw2 (by go_simp)
    have cw2_1_2 : w2.cell? ⟨W.heap.size + 1, 2, none⟩ = some (.int .u64 bd) := cell_gr hw2 (by go_simp)
    have zw2_1 : W.heap.size + 1 < w2.heap.size := World.block_lt_of_cell? _ _ cw2_1_0
    have cw2_2_0 : w2.cell? ⟨W.heap.size + 1 + 1, 0, none⟩ = some (.int .u64 ch) := cell_gr hw2 (by go_simp)
    have cw2_2_1 : w2.cell? ⟨W.heap.size + 1 + 1, 1, none⟩ = some (.int .u64 cl) := cell_gr hw2 (by go_simp)
    have cw2_2_2 : w2.cell? ⟨W.heap.size + 1 + 1, 2, none⟩ = some (.int .u64 cd) := cell_gr hw2 (by go_simp)
    have zw2_2 : W.heap.size + 1 + 1 < w2.heap.size := World.block_lt_of_cell? _ _ cw2_2_0
    have gw2 : Gr W w2 := Gr.trans (by have gg := gw1; have gs := gg.size; go_grown) hw2
    clear hw2 hhw2 gw1 zw1_0 cw1_0_0 cw1_0_1 cw1_0_2 zw1_1 cw1_1_0 cw1_1_1 cw1_1_2 zw1_2 cw1_2_0 cw1_2_1 cw1_2_2
    go_wp2_with fail
    go_at_call 25
    refine ((HAW.out _ (by have gg := gw2; have gs := gg.size; go_grown))).mono ?_
    rintro e w5 ⟨rfl, hw5⟩
    have cw5_0_0 : w5.cell? ⟨W.heap.size, 0, none⟩ = some (.int .u64 ah) := cell_gr hw5 (by go_simp)
    have cw5_0_1 : w5.cell? ⟨W.heap.size, 1, none⟩ = some (.int .u64 al) := cell_gr hw5 (by go_simp)
    have cw5_0_2 : w5.cell? ⟨W.heap.size, 2, none⟩ = some (.int .u64 ad) := cell_gr hw5 (by go_simp)
    have zw5_0 : W.heap.size < w5.heap.size := World.block_lt_of_cell? _ _ cw5_0_0
    have cw5_1_0 : w5.cell? ⟨W.heap.size + 1, 0, none⟩ = some (.int .u64 bh) := cell_gr hw5 (by go_simp)
    have cw5_1_1 : w5.cell? ⟨W.heap.size + 1, 1, none⟩ = some (.int .u64 bl) := cell_gr hw5 (by go_simp)
    have cw5_1_2 : w5.cell? ⟨W.heap.size + 1, 2, none⟩ = some (.int .u64 bd) := cell_gr hw5 (by go_simp)
    have zw5_1 : W.heap.size + 1 < w5.heap.size := World.block_lt_of_cell? _ _ cw5_1_0
    have cw5_2_0 : w5.cell? ⟨W.heap.size + 1 + 1, 0, none⟩ = some (.int .u64 ch) := cell_gr hw5 (by go_simp)
    have cw5_2_1 : w5.cell? ⟨W.heap.size + 1 + 1, 1, none⟩ = some (.int .u64 cl) := cell_gr hw5 (by go_simp)
    have cw5_2_2 : w5.cell? ⟨W.heap.size + 1 + 1, 2, none⟩ = some (.int .u64 cd) := cell_gr hw5 (by go_simp)
    have zw5_2 : W.heap.size + 1 + 1 < w5.heap.size := World.block_lt_of_cell? _ _ cw5_2_0
    have gw5 : Gr W w5 := Gr.trans (by have gg := gw2; have gs := gg.size; go_grown) hw5
    clear hw5 gw2 zw2_0 cw2_0_0 cw2_0_1 cw2_0_2 zw2_1 cw2_1_0 cw2_1_1 cw2_1_2 zw2_2 cw2_2_0 cw2_2_1 cw2_2_2
    go_wp2_with fail
    go_ret
    exact ⟨rfl, by go_grown⟩
  · go_enter Tryd.func6, Tryd.ntmps6
    go_wp2_with fail
    go_at_call 27
    refine ((H1.out _)).mono ?_
    rintro e w1 ⟨rfl, hw1⟩
    have cw1_0_0 : w1.cell? ⟨W.heap.size, 0, none⟩ = some (.int .u64 ah) := cell_gr hw1 (by go_simp)
    have cw1_0_1 : w1.cell? ⟨W.heap.size, 1, none⟩ = some (.int .u64 al) := cell_gr hw1 (by go_simp)
    have cw1_0_2 : w1.cell? ⟨W.heap.size, 2, none⟩ = some (.int .u64 ad) := cell_gr hw1 (by go_simp)
    have zw1_0 : W.heap.size < w1.heap.size := World.block_lt_of_cell? _ _ cw1_0_0
    have cw1_1_0 : w1.cell? ⟨W.heap.size + 1, 0, none⟩ = some (.int .u64 bh) := cell_gr hw1 (by go_simp)
    have cw1_1_1 : w1.cell? ⟨W.heap.size + 1, 1, none⟩ = some (.int .u64 bl) := cell_gr hw1 (by go_simp)
    have cw1_1_2 : w1.cell? ⟨W.heap.size + 1, 2, none⟩ = some (.int .u64 bd) := cell_gr hw1 (by go_simp)
    have zw1_1 : W.heap.size + 1 < w1.heap.size := World.block_lt_of_cell? _ _ cw1_1_0
    have cw1_2_0 : w1.cell? ⟨W.heap.size + 1 + 1, 0, none⟩ = some (.int .u64 ch) := cell_gr hw1 (by go_simp)
    have cw1_2_1 : w1.cell? ⟨W.heap.size + 1 + 1, 1, none⟩ = some (.int .u64 cl) := cell_gr hw1 (by go_simp)
    have cw1_2_2 : w1.cell? ⟨W.heap.size + 1 + 1, 2, none⟩ = some (.int .u64 cd) := cell_gr hw1 (by go_simp)
    have zw1_2 : W.heap.size + 1 + 1 < w1.heap.size := World.block_lt_of_cell? _ _ cw1_2_0
    have gw1 : Gr W w1 := Gr.trans (by go_grown) hw1
    clear hw1
    go_wp2_with fail
    refine wp_region_spread (by kernel_rfl) (by kernel_rfl) ?_
    try simp only [List.append]
    repeat (first | go_big_quiet_skip | (go_big_quiet_want; go_big_quiet_op; (first | go_big_quiet_on | (apply Exists.intro; refine ⟨fun _ => ?_, ?_⟩; (· (first | (go_at_call 27; first | ((with_reducible refine ((H2.out _)).mono ?_); rintro e w' ⟨rfl, hg⟩; exact ⟨rfl, spread_gr hg⟩) | ((with_reducible refine ((H3.out _)).mono ?_); rintro e w' ⟨rfl, hg⟩; exact ⟨rfl, spread_gr hg⟩)) | (go_at_call 28; first | ((with_reducible refine ((H4.out _ (Gr.trans (by have gg := gw1; have gs := gg.size; go_grown) (gr_spread _ _)))).mono ?_); rintro e w' ⟨rfl, hg⟩; exact ⟨rfl, spread_gr hg⟩) | ((with_reducible refine ((H5.out _ (Gr.trans (by have gg := gw1; have gs := gg.size; go_grown) (gr_spread _ _)))).mono ?_); rintro e w' ⟨rfl, hg⟩; exact ⟨rfl, spread_gr hg⟩)))); go_big_quiet_on))))
    refine wpQuiet_nil ?_
    intro w2 hhw2
    have hw2 := Hd.gr_of_spread hhw2
    have cw2_0_0 : w2.cell? ⟨W.heap.size, 0, none⟩ = some (.int .u64 ah) := cell_gr hw2 (by go_simp)
    have cw2_0_1 : w2.cell? ⟨W.heap.size, 1, none⟩ = some (.int .u64 al) := cell_gr hw2 (by go_simp)
    have cw2_0_2 : w2.cell? ⟨W.heap.size, 2, none⟩ = some (.int .u64 ad) := cell_gr hw2 (by go_simp)
    have zw2_0 : W.heap.size < w2.heap.size := World.block_lt_of_cell? _ _ cw2_0_0
    have cw2_1_0 : w2.cell? ⟨W.heap.size + 1, 0, none⟩ = some (.int .u64 bh) := cell_gr hw2 (by go_simp)
    have cw2_1_1 : w2.cell? ⟨W.heap.size + 1, 1, none⟩ = some (.int .u64 bl) := cell_gr hw2 (by go_simp)
    have cw2_1_2 : w2.cell? ⟨W.heap.size + 1, 2, none⟩ = some (.int .u64 bd) := cell_gr hw2 (by go_simp)
    have zw2_1 : W.heap.size + 1 < w2.heap.size := World.block_lt_of_cell? _ _ cw2_1_0
    have cw2_2_0 : w2.cell? ⟨W.heap.size + 1 + 1, 0, none⟩ = some (.int .u64 ch) := cell_gr hw2 (by go_simp)
    have cw2_2_1 : w2.cell? ⟨W.heap.size + 1 + 1, 1, none⟩ = some (.int .u64 cl) := cell_gr hw2 (by go_simp)
    have cw2_2_2 : w2.cell? ⟨W.heap.size + 1 + 1, 2, none⟩ = some (.int .u64 cd) := cell_gr hw2 (by go_simp)
    have zw2_2 : W.heap.size + 1 + 1 < w2.heap.size := World.block_lt_of_cell? _ _ cw2_2_0
    have gw2 : Gr W w2 := Gr.trans (by have gg := gw1; have gs := gg.size; go_grown) hw2
    clear hw2 hhw2 gw1 zw1_0 cw1_0_0 cw1_0_1 cw1_0_2 zw1_1 cw1_1_0 cw1_1_1 cw1_1_2 zw1_2 cw1_2_0 cw1_2_1 cw1_2_2
    go_wp2_with fail
    go_at_call 27
    refine ((H6.out _)).mono ?_
    rintro e w3 ⟨rfl, hw3⟩
    have cw3_0_0 : w3.cell? ⟨W.heap.size, 0, none⟩ = some (.int .u64 ah) := cell_gr hw3 (by go_simp)
    have cw3_0_1 : w3.cell? ⟨W.heap.size, 1, none⟩ = some (.int .u64 al) := cell_gr hw3 (by go_simp)
    have cw3_0_2 : w3.cell? ⟨W.heap.size, 2, none⟩ = some (.int .u64 ad) := cell_gr hw3 (by go_simp)
    have zw3_0 : W.heap.size < w3.heap.size := World.block_lt_of_cell? _ _ cw3_0_0
    have cw3_1_0 : w3.cell? ⟨W.heap.size + 1, 0, none⟩ = some (.int .u64 bh) := cell_gr hw3 (by go_simp)
    have cw3_1_1 : w3.cell? ⟨W.heap.size + 1, 1, none⟩ = some (.int .u64 bl) := cell_gr hw3 (by go_simp)
    have cw3_1_2 : w3.cell? ⟨W.heap.size + 1, 2, none⟩ = some (.int .u64 bd) := cell_gr hw3 (by go_simp)
    have zw3_1 : W.heap.size + 1 < w3.heap.size := World.block_lt_of_cell? _ _ cw3_1_0
    have cw3_2_0 : w3.cell? ⟨W.heap.size + 1 + 1, 0, none⟩ = some (.int .u64 ch) := cell_gr hw3 (by go_simp)
    have cw3_2_1 : w3.cell? ⟨W.heap.size + 1 + 1, 1, none⟩ = some (.int .u64 cl) := cell_gr hw3 (by go_simp)
    have cw3_2_2 : w3.cell? ⟨W.heap.size + 1 + 1, 2, none⟩ = some (.int .u64 cd) := cell_gr hw3 (by go_simp)
    have zw3_2 : W.heap.size + 1 + 1 < w3.heap.size := World.block_lt_of_cell? _ _ cw3_2_0
    have gw3 : Gr W w3 := Gr.trans (by have gg := gw2; have gs := gg.size; go_grown) hw3
    clear hw3 gw2 zw2_0 cw2_0_0 cw2_0_1 cw2_0_2 zw2_1 cw2_1_0 cw2_1_1 cw2_1_2 zw2_2 cw2_2_0 cw2_2_1 cw2_2_2
    go_wp2_with fail
    go_at_call 25
    refine ((HAW.out _ (by have gg := gw3; have gs := gg.size; go_grown))).mono ?_
    rintro e w5 ⟨rfl, hw5⟩
    have cw5_0_0 : w5.cell? ⟨W.heap.size, 0, none⟩ = some (.int .u64 ah) := cell_gr hw5 (by go_simp)
    have cw5_0_1 : w5.cell? ⟨W.heap.size, 1, none⟩ = some (.int .u64 al) := cell_gr hw5 (by go_simp)
    have cw5_0_2 : w5.cell? ⟨W.heap.size, 2, none⟩ = some (.int .u64 ad) := cell_gr hw5 (by go_simp)
    have zw5_0 : W.heap.size < w5.heap.size := World.block_lt_of_cell? _ _ cw5_0_0
    have cw5_1_0 : w5.cell? ⟨W.heap.size + 1, 0, none⟩ = some (.int .u64 bh) := cell_gr hw5 (by go_simp)
    have cw5_1_1 : w5.cell? ⟨W.heap.size + 1, 1, none⟩ = some (.int .u64 bl) := cell_gr hw5 (by go_simp)
    have cw5_1_2 : w5.cell? ⟨W.heap.size + 1, 2, none⟩ = some (.int .u64 bd) := cell_gr hw5 (by go_simp)
    have zw5_1 : W.heap.size + 1 < w5.heap.size := World.block_lt_of_cell? _ _ cw5_1_0
    have cw5_2_0 : w5.cell? ⟨W.heap.size + 1 + 1, 0, none⟩ = some (.int .u64 ch) := cell_gr hw5 (by go_simp)
    have cw5_2_1 : w5.cell? ⟨W.heap.size + 1 + 1, 1, none⟩ = some (.int .u64 cl) := cell_gr hw5 (by go_simp)
    have cw5_2_2 : w5.cell? ⟨W.heap.size + 1 + 1, 2, none⟩ = some (.int .u64 cd) := cell_gr hw5 (by go_simp)
    have zw5_2 : W.heap.size + 1 + 1 < w5.heap.size := World.block_lt_of_cell? _ _ cw5_2_0
    have gw5 : Gr W w5 := Gr.trans (by have gg := gw3; have gs := gg.size; go_grown) hw5
    clear hw5 gw3 zw3_0 cw3_0_0 cw3_0_1 cw3_0_2 zw3_1 cw3_1_0 cw3_1_1 cw3_1_2 zw3_2 cw3_2_0 cw3_2_1 cw3_2_2
    go_wp2_with fail
    go_ret
    exact ⟨rfl, by go_grown⟩
  · go_enter Tryd.func6, Tryd.ntmps6
    go_wp2_with fail
    go_at_call 27
    refine ((H1.out _)).mono ?_
    rintro e w1 ⟨rfl, hw1⟩
    have cw1_0_0 : w1.cell? ⟨W.heap.size, 0, none⟩ = some (.int .u64 ah) := cell_gr hw1 (by go_simp)
    have cw1_0_1 : w1.cell? ⟨W.heap.size, 1, none⟩ = some (.int .u64 al) := cell_gr hw1 (by go_simp)
    have cw1_0_2 : w1.cell? ⟨W.heap.size, 2, none⟩ = some (.int .u64 ad) := cell_gr hw1 (by go_simp)
    have zw1_0 : W.heap.size < w1.heap.size := World.block_lt_of_cell? _ _ cw1_0_0
    have cw1_1_0 : w1.cell? ⟨W.heap.size + 1, 0, none⟩ = some (.int .u64 bh) := cell_gr hw1 (by go_simp)
    have cw1_1_1 : w1.cell? ⟨W.heap.size + 1, 1, none⟩ = some (.int .u64 bl) := cell_gr hw1 (by go_simp)
    have cw1_1_2 : w1.cell? ⟨W.heap.size + 1, 2, none⟩ = some (.int .u64 bd) := cell_gr hw1 (by go_simp)
    have zw1_1 : W.heap.size + 1 < w1.heap.size := World.block_lt_of_cell? _ _ cw1_1_0
    have cw1_2_0 : w1.cell? ⟨W.heap.size + 1 + 1, 0, none⟩ = some (.int .u64 ch) := cell_gr hw1 (by go_simp)
    have cw1_2_1 : w1.cell? ⟨W.heap.size + 1 + 1, 1, none⟩ = some (.int .u64 cl) := cell_gr hw1 (by go_simp)
    have cw1_2_2 : w1.cell? ⟨W.heap.size + 1 + 1, 2, none⟩ = some (.int .u64 cd) := cell_gr hw1 (by go_simp)
    have zw1_2 : W.heap.size + 1 + 1 < w1.heap.size := World.block_lt_of_cell? _ _ cw1_2_0
    have gw1 : Gr W w1 := Gr.trans (by go_grown) hw1
    clear hw1
    go_wp2_with fail
    refine wp_region_spread (by kernel_rfl) (by kernel_rfl) ?_
    try simp only [List.append]
    repeat (first | go_big_quiet_skip | (go_big_quiet_want; go_big_quiet_op; (first | go_big_quiet_on | (apply Exists.intro; refine ⟨fun _ => ?_, ?_⟩; (· (first | (go_at_call 27; first | ((with_reducible refine ((H2.out _)).mono ?_); rintro e w' ⟨rfl, hg⟩; exact ⟨rfl, spread_gr hg⟩) | ((with_reducible refine ((H3.out _)).mono ?_); rintro e w' ⟨rfl, hg⟩; exact ⟨rfl, spread_gr hg⟩)) | (go_at_call 28; first | ((with_reducible refine ((H4.out _ (Gr.trans (by have gg := gw1; have gs := gg.size; go_grown) (gr_spread _ _)))).mono ?_); rintro e w' ⟨rfl, hg⟩; exact ⟨rfl, spread_gr hg⟩) | ((with_reducible refine ((H5.out _ (Gr.trans (by have gg := gw1; have gs := gg.size; go_grown) (gr_spread _ _)))).mono ?_); rintro e w' ⟨rfl, hg⟩; exact ⟨rfl, spread_gr hg⟩)))); go_big_quiet_on))))
    refine wpQuiet_nil ?_
    intro w2 hhw2
    have hw2 := Hd.gr_of_spread hhw2
    have cw2_0_0 : w2.cell? ⟨W.heap.size, 0, none⟩ = some (.int .u64 ah) := cell_gr hw2 (by go_simp)
    have cw2_0_1 : w2.cell? ⟨W.heap.size, 1, none⟩ = some (.int .u64 al) := cell_gr hw2 (by go_simp)
    have cw2_0_2 : w2.cell? ⟨W.heap.size, 2, none⟩ = some (.int .u64 ad) := cell_gr hw2 (by go_simp)
    have zw2_0 : W.heap.size < w2.heap.size := World.block_lt_of_cell? _ _ cw2_0_0
    have cw2_1_0 : w2.cell? ⟨W.heap.size + 1, 0, none⟩ = some (.int .u64 bh) := cell_gr hw2 (by go_simp)
    have cw2_1_1 : w2.cell? ⟨W.heap.size + 1, 1, none⟩ = some (.int .u64 bl) := cell_gr hw2 (by go_simp)
    have cw2_1_2 : w2.cell? ⟨W.heap.size + 1, 2, none⟩ = some (.int .u64 bd) := cell_gr hw2 (by go_simp)
    have zw2_1 : W.heap.size + 1 < w2.heap.size := World.block_lt_of_cell? _ _ cw2_1_0
    have cw2_2_0 : w2.cell? ⟨W.heap.size + 1 + 1, 0, none⟩ = some (.int .u64 ch) := cell_gr hw2 (by go_simp)
    have cw2_2_1 : w2.cell? ⟨W.heap.size + 1 + 1, 1, none⟩ = some (.int .u64 cl) := cell_gr hw2 (by go_simp)
    have cw2_2_2 : w2.cell? ⟨W.heap.size + 1 + 1, 2, none⟩ = some (.int .u64 cd) := cell_gr hw2 (by go_simp)
    have zw2_2 : W.heap.size + 1 + 1 < w2.heap.size := World.block_lt_of_cell? _ _ cw2_2_0
    have gw2 : Gr W w2 := Gr.trans (by have gg := gw1; have gs := gg.size; go_grown) hw2
    clear hw2 hhw2 gw1 zw1_0 cw1_0_0 cw1_0_1 cw1_0_2 zw1_1 cw1_1_0 cw1_1_1 cw1_1_2 zw1_2 cw1_2_0 cw1_2_1 cw1_2_2
    go_wp2_with fail
    go_at_call 27
    refine ((H6.out _)).mono ?_
    rintro e w3 ⟨rfl, hw3⟩
    have cw3_0_0 : w3.cell? ⟨W.heap.size, 0, none⟩ = some (.int .u64 ah) := cell_gr hw3 (by go_simp)
    have cw3_0_1 : w3.cell? ⟨W.heap.size, 1, none⟩ = some (.int .u64 al) := cell_gr hw3 (by go_simp)
    have cw3_0_2 : w3.cell? ⟨W.heap.size, 2, none⟩ = some (.int .u64 ad) := cell_gr hw3 (by go_simp)
    have zw3_0 : W.heap.size < w3.heap.size := World.block_lt_of_cell? _ _ cw3_0_0
    have cw3_1_0 : w3.cell? ⟨W.heap.size + 1, 0, none⟩ = some (.int .u64 bh) := cell_gr hw3 (by go_simp)
    have cw3_1_1 : w3.cell? ⟨W.heap.size + 1, 1, none⟩ = some (.int .u64 bl) := cell_gr hw3 (by go_simp)
    have cw3_1_2 : w3.cell? ⟨W.heap.size + 1, 2, none⟩ = some (.int .u64 bd) := cell_gr hw3 (by go_simp)
    have zw3_1 : W.heap.size + 1 < w3.heap.size := World.block_lt_of_cell? _ _ cw3_1_0
    have cw3_2_0 : w3.cell? ⟨W.heap.size + 1 + 1, 0, none⟩ = some (.int .u64 ch) := cell_gr hw3 (by go_simp)
    have cw3_2_1 : w3.cell? ⟨W.heap.size + 1 + 1, 1, none⟩ = some (.int .u64 cl) := cell_gr hw3 (by go_simp)
    have cw3_2_2 : w3.cell? ⟨W.heap.size + 1 + 1, 2, none⟩ = some (.int .u64 cd) := cell_gr hw3 (by go_simp)
    have zw3_2 : W.heap.size + 1 + 1 < w3.heap.size := World.block_lt_of_cell? _ _ cw3_2_0
    have gw3 : Gr W w3 := Gr.trans (by have gg := gw2; have gs := gg.size; go_grown) hw3
    clear hw3 gw2 zw2_0 cw2_0_0 cw2_0_1 cw2_0_2 zw2_1 cw2_1_0 cw2_1_1 cw2_1_2 zw2_2 cw2_2_0 cw2_2_1 cw2_2_2
    go_wp2_with fail
    go_at_call 27
    refine ((H7.out _)).mono ?_
    rintro e w4 ⟨rfl, hw4⟩
    have cw4_0_0 : w4.cell? ⟨W.heap.size, 0, none⟩ = some (.int .u64 ah) := cell_gr hw4 (by go_simp)
    have cw4_0_1 : w4.cell? ⟨W.heap.size, 1, none⟩ = some (.int .u64 al) := cell_gr hw4 (by go_simp)
    have cw4_0_2 : w4.cell? ⟨W.heap.size, 2, none⟩ = some (.int .u64 ad) := cell_gr hw4 (by go_simp)
    have zw4_0 : W.heap.size < w4.heap.size := World.block_lt_of_cell? _ _ cw4_0_0
    have cw4_1_0 : w4.cell? ⟨W.heap.size + 1, 0, none⟩ = some (.int .u64 bh) := cell_gr hw4 (by go_simp)
    have cw4_1_1 : w4.cell? ⟨W.heap.size + 1, 1, none⟩ = some (.int .u64 bl) := cell_gr hw4 (by go_simp)
    have cw4_1_2 : w4.cell? ⟨W.heap.size + 1, 2, none⟩ = some (.int .u64 bd) := cell_gr hw4 (by go_simp)
    have zw4_1 : W.heap.size + 1 < w4.heap.size := World.block_lt_of_cell? _ _ cw4_1_0
    have cw4_2_0 : w4.cell? ⟨W.heap.size + 1 + 1, 0, none⟩ = some (.int .u64 ch) := cell_gr hw4 (by go_simp)
    have cw4_2_1 : w4.cell? ⟨W.heap.size + 1 + 1, 1, none⟩ = some (.int .u64 cl) := cell_gr hw4 (by go_simp)
    have cw4_2_2 : w4.cell? ⟨W.heap.size + 1 + 1, 2, none⟩ = some (.int .u64 cd) := cell_gr hw4 (by go_simp)
    have zw4_2 : W.heap.size + 1 + 1 < w4.heap.size := World.block_lt_of_cell? _ _ cw4_2_0
    have gw4 : Gr W w4 := Gr.trans (by have gg := gw3; have gs := gg.size; go_grown) hw4
    clear hw4 gw3 zw3_0 cw3_0_0 cw3_0_1 cw3_0_2 zw3_1 cw3_1_0 cw3_1_1 cw3_1_2 zw3_2 cw3_2_0 cw3_2_1 cw3_2_2
    go_wp2_with fail
    go_at_call 25
    refine ((HAW.out _ (by have gg := gw4; have gs := gg.size; go_grown))).mono ?_
    rintro e w5 ⟨rfl, hw5⟩
    have cw5_0_0 : w5.cell? ⟨W.heap.size, 0, none⟩ = some (.int .u64 ah) := cell_gr hw5 (by go_simp)
    have cw5_0_1 : w5.cell? ⟨W.heap.size, 1, none⟩ = some (.int .u64 al) := cell_gr hw5 (by go_simp)
    have cw5_0_2 : w5.cell? ⟨W.heap.size, 2, none⟩ = some (.int .u64 ad) := cell_gr hw5 (by go_simp)
    have zw5_0 : W.heap.size < w5.heap.size := World.block_lt_of_cell? _ _ cw5_0_0
    have cw5_1_0 : w5.cell? ⟨W.heap.size + 1, 0, none⟩ = some (.int .u64 bh) := cell_gr hw5 (by go_simp)
    have cw5_1_1 : w5.cell? ⟨W.heap.size + 1, 1, none⟩ = some (.int .u64 bl) := cell_gr hw5 (by go_simp)
    have cw5_1_2 : w5.cell? ⟨W.heap.size + 1, 2, none⟩ = some (.int .u64 bd) := cell_gr hw5 (by go_simp)
    have zw5_1 : W.heap.size + 1 < w5.heap.size := World.block_lt_of_cell? _ _ cw5_1_0
    have cw5_2_0 : w5.cell? ⟨W.heap.size + 1 + 1, 0, none⟩ = some (.int .u64 ch) := cell_gr hw5 (by go_simp)
    have cw5_2_1 : w5.cell? ⟨W.heap.size + 1 + 1, 1, none⟩ = some (.int .u64 cl) := cell_gr hw5 (by go_simp)
    have cw5_2_2 : w5.cell? ⟨W.heap.size + 1 + 1, 2, none⟩ = some (.int .u64 cd) := cell_gr hw5 (by go_simp)
    have zw5_2 : W.heap.size + 1 + 1 < w5.heap.size := World.block_lt_of_cell? _ _ cw5_2_0
    have gw5 : Gr W w5 := Gr.trans (by have gg := gw4; have gs := gg.size; go_grown) hw5
    clear hw5 gw4 zw4_0 cw4_0_0 cw4_0_1 cw4_0_2 zw4_1 cw4_1_0 cw4_1_1 cw4_1_2 zw4_2 cw4_2_0 cw4_2_1 cw4_2_2
    go_wp2_with fail
    go_ret
    exact ⟨rfl, by go_grown⟩
  · go_enter Tryd.func6, Tryd.ntmps6
    go_wp2_with fail
    go_at_call 27
    refine ((H1.out _)).mono ?_
    rintro e w1 ⟨rfl, hw1⟩
    have cw1_0_0 : w1.cell? ⟨W.heap.size, 0, none⟩ = some (.int .u64 ah) := cell_gr hw1 (by go_simp)
    have cw1_0_1 : w1.cell? ⟨W.heap.size, 1, none⟩ = some (.int .u64 al) := cell_gr hw1 (by go_simp)
    have cw1_0_2 : w1.cell? ⟨W.heap.size, 2, none⟩ = some (.int .u64 ad) := cell_gr hw1 (by go_simp)
    have zw1_0 : W.heap.size < w1.heap.size := World.block_lt_of_cell? _ _ cw1_0_0
    have cw1_1_0 : w1.cell? ⟨W.heap.size + 1, 0, none⟩ = some (.int .u64 bh) := cell_gr hw1 (by go_simp)
    have cw1_1_1 : w1.cell? ⟨W.heap.size + 1, 1, none⟩ = some (.int .u64 bl) := cell_gr hw1 (by go_simp)
    have cw1_1_2 : w1.cell? ⟨W.heap.size + 1, 2, none⟩ = some (.int .u64 bd) := cell_gr hw1 (by go_simp)
    have zw1_1 : W.heap.size + 1 < w1.heap.size := World.block_lt_of_cell? _ _ cw1_1_0
    have cw1_2_0 : w1.cell? ⟨W.heap.size + 1 + 1, 0, none⟩ = some (.int .u64 ch) := cell_gr hw1 (by go_simp)
    have cw1_2_1 : w1.cell? ⟨W.heap.size + 1 + 1, 1, none⟩ = some (.int .u64 cl) := cell_gr hw1 (by go_simp)
    have cw1_2_2 : w1.cell? ⟨W.heap.size + 1 + 1, 2, none⟩ = some (.int .u64 cd) := cell_gr hw1 (by go_simp)
    have zw1_2 : W.heap.size + 1 + 1 < w1.heap.size := World.block_lt_of_cell? _ _ cw1_2_0
    have gw1 : Gr W w1 := Gr.trans (by go_grown) hw1
    clear hw1
    go_wp2_with fail
    refine wp_region_spread (by kernel_rfl) (by kernel_rfl) ?_
    try simp only [List.append]
    repeat (first | go_big_quiet_skip | (go_big_quiet_want; go_big_quiet_op; (first | go_big_quiet_on | (apply Exists.intro; refine ⟨fun _ => ?_, ?_⟩; (· (first | (go_at_call 27; first | ((with_reducible refine ((H2.out _)).mono ?_); rintro e w' ⟨rfl, hg⟩; exact ⟨rfl, spread_gr hg⟩) | ((with_reducible refine ((H3.out _)).mono ?_); rintro e w' ⟨rfl, hg⟩; exact ⟨rfl, spread_gr hg⟩)) | (go_at_call 28; first | ((with_reducible refine ((H4.out _ (Gr.trans (by have gg := gw1; have gs := gg.size; go_grown) (gr_spread _ _)))).mono ?_); rintro e w' ⟨rfl, hg⟩; exact ⟨rfl, spread_gr hg⟩) | ((with_reducible refine ((H5.out _ (Gr.trans (by have gg := gw1; have gs := gg.size; go_grown) (gr_spread _ _)))).mono ?_); rintro e w' ⟨rfl, hg⟩; exact ⟨rfl, spread_gr hg⟩)))); go_big_quiet_on))))
    refine wpQuiet_nil ?_
    intro w2 hhw2
    have hw2 := Hd.gr_of_spread hhw2
    have cw2_0_0 : w2.cell? ⟨W.heap.size, 0, none⟩ = some (.int .u64 ah) := cell_gr hw2 (by go_simp)
    have cw2_0_1 : w2.cell? ⟨W.heap.size, 1, none⟩ = some (.int .u64 al) := cell_gr hw2 (by go_simp)
    have cw2_0_2 : w2.cell? ⟨W.heap.size, 2, none⟩ = some (.int .u64 ad) := cell_gr hw2 (by go_simp)
    have zw2_0 : W.heap.size < w2.heap.size := World.block_lt_of_cell? _ _ cw2_0_0
    have cw2_1_0 : w2.cell? ⟨W.heap.size + 1, 0, none⟩ = some (.int .u64 bh) := cell_gr hw2 (by go_simp)
    have cw2_1_1 : w2.cell? ⟨W.heap.size + 1, 1, none⟩ = some (.int .u64 bl) := cell_gr hw2 (by go_simp)
    have cw2_1_2 : w2.cell? ⟨W.heap.size + 1, 2, none⟩ = some (.int .u64 bd) := cell_gr hw2 (by go_simp)
    have zw2_1 : W.heap.size + 1 < w2.heap.size := World.block_lt_of_cell? _ _ cw2_1_0
    have cw2_2_0 : w2.cell? ⟨W.heap.size + 1 + 1, 0, none⟩ = some (.int .u64 ch) := cell_gr hw2 (by go_simp)
    have cw2_2_1 : w2.cell? ⟨W.heap.size + 1 + 1, 1, none⟩ = some (.int .u64 cl) := cell_gr hw2 (by go_simp)
    have cw2_2_2 : w2.cell? ⟨W.heap.size + 1 + 1, 2, none⟩ = some (.int .u64 cd) := cell_gr hw2 (by go_simp)
    have zw2_2 : W.heap.size + 1 + 1 < w2.heap.size := World.block_lt_of_cell? _ _ cw2_2_0
    have gw2 : Gr W w2 := Gr.trans (by have gg := gw1; have gs := gg.size; go_grown) hw2
    clear hw2 hhw2 gw1 zw1_0 cw1_0_0 cw1_0_1 cw1_0_2 zw1_1 cw1_1_0 cw1_1_1 cw1_1_2 zw1_2 cw1_2_0 cw1_2_1 cw1_2_2
    go_wp2_with fail
    go_at_call 25
    refine ((HAW.out _ (by have gg := gw2; have gs := gg.size; go_grown))).mono ?_
    rintro e w5 ⟨rfl, hw5⟩
    have cw5_0_0 : w5.cell? ⟨W.heap.size, 0, none⟩ = some (.int .u64 ah) := cell_gr hw5 (by go_simp)
    have cw5_0_1 : w5.cell? ⟨W.heap.size, 1, none⟩ = some (.int .u64 al) := cell_gr hw5 (by go_simp)
    have cw5_0_2 : w5.cell? ⟨W.heap.size, 2, none⟩ = some (.int .u64 ad) := cell_gr hw5 (by go_simp)
    have zw5_0 : W.heap.size < w5.heap.size := World.block_lt_of_cell? _ _ cw5_0_0
    have cw5_1_0 : w5.cell? ⟨W.heap.size + 1, 0, none⟩ = some (.int .u64 bh) := cell_gr hw5 (by go_simp)
    have cw5_1_1 : w5.cell? ⟨W.heap.size + 1, 1, none⟩ = some (.int .u64 bl) := cell_gr hw5 (by go_simp)
    have cw5_1_2 : w5.cell? ⟨W.heap.size + 1, 2, none⟩ = some (.int .u64 bd) := cell_gr hw5 (by go_simp)
    have zw5_1 : W.heap.size + 1 < w5.heap.size := World.block_lt_of_cell? _ _ cw5_1_0
    have cw5_2_0 : w5.cell? ⟨W.heap.size + 1 + 1, 0, none⟩ = some (.int .u64 ch) := cell_gr hw5 (by go_simp)
    have cw5_2_1 : w5.cell? ⟨W.heap.size + 1 + 1, 1, none⟩ = some (.int .u64 cl) := cell_gr hw5 (by go_simp)
    have cw5_2_2 : w5.cell? ⟨W.heap.size + 1 + 1, 2, none⟩ = some (.int .u64 cd) := cell_gr hw5 (by go_simp)
    have zw5_2 : W.heap.size + 1 + 1 < w5.heap.size := World.block_lt_of_cell? _ _ cw5_2_0
    have gw5 : Gr W w5 := Gr.trans (by have gg := gw2; have gs := gg.size; go_grown) hw5
    clear hw5 gw2 zw2_0 cw2_0_0 cw2_0_1 cw2_0_2 zw2_1 cw2_1_0 cw2_1_1 cw2_1_2 zw2_2 cw2_2_0 cw2_2_1 cw2_2_2
    go_wp2_with fail
    go_ret
    exact ⟨rfl, by go_grown⟩
  · go_enter Tryd.func6, Tryd.ntmps6
    go_wp2_with fail
    go_at_call 27
    refine ((H1.out _)).mono ?_
    rintro e w1 ⟨rfl, hw1⟩
    have cw1_0_0 : w1.cell? ⟨W.heap.size, 0, none⟩ = some (.int .u64 ah) := cell_gr hw1 (by go_simp)
    have cw1_0_1 : w1.cell? ⟨W.heap.size, 1, none⟩ = some (.int .u64 al) := cell_gr hw1 (by go_simp)
    have cw1_0_2 : w1.cell? ⟨W.heap.size, 2, none⟩ = some (.int .u64 ad) := cell_gr hw1 (by go_simp)
    have zw1_0 : W.heap.size < w1.heap.size := World.block_lt_of_cell? _ _ cw1_0_0
    have cw1_1_0 : w1.cell? ⟨W.heap.size + 1, 0, none⟩ = some (.int .u64 bh) := cell_gr hw1 (by go_simp)
    have cw1_1_1 : w1.cell? ⟨W.heap.size + 1, 1, none⟩ = some (.int .u64 bl) := cell_gr hw1 (by go_simp)
    have cw1_1_2 : w1.cell? ⟨W.heap.size + 1, 2, none⟩ = some (.int .u64 bd) := cell_gr hw1 (by go_simp)
    have zw1_1 : W.heap.size + 1 < w1.heap.size := World.block_lt_of_cell? _ _ cw1_1_0
    have cw1_2_0 : w1.cell? ⟨W.heap.size + 1 + 1, 0, none⟩ = some (.int .u64 ch) := cell_gr hw1 (by go_simp)
    have cw1_2_1 : w1.cell? ⟨W.heap.size + 1 + 1, 1, none⟩ = some (.int .u64 cl) := cell_gr hw1 (by go_simp)
    have cw1_2_2 : w1.cell? ⟨W.heap.size + 1 + 1, 2, none⟩ = some (.int .u64 cd) := cell_gr hw1 (by go_simp)
    have zw1_2 : W.heap.size + 1 + 1 < w1.heap.size := World.block_lt_of_cell? _ _ cw1_2_0
    have gw1 : Gr W w1 := Gr.trans (by go_grown) hw1
    clear hw1
    go_wp2_with fail
    refine wp_region_spread (by kernel_rfl) (by kernel_rfl) ?_
    try simp only [List.append]
    repeat (first | go_big_quiet_skip | (go_big_quiet_want; go_big_quiet_op; (first | go_big_quiet_on | (apply Exists.intro; refine ⟨fun _ => ?_, ?_⟩; (· (first | (go_at_call 27; first | ((with_reducible refine ((H2.out _)).mono ?_); rintro e w' ⟨rfl, hg⟩; exact ⟨rfl, spread_gr hg⟩) | ((with_reducible refine ((H3.out _)).mono ?_); rintro e w' ⟨rfl, hg⟩; exact ⟨rfl, spread_gr hg⟩)) | (go_at_call 28; first | ((with_reducible refine ((H4.out _ (Gr.trans (by have gg := gw1; have gs := gg.size; go_grown) (gr_spread _ _)))).mono ?_); rintro e w' ⟨rfl, hg⟩; exact ⟨rfl, spread_gr hg⟩) | ((with_reducible refine ((H5.out _ (Gr.trans (by have gg := gw1; have gs := gg.size; go_grown) (gr_spread _ _)))).mono ?_); rintro e w' ⟨rfl, hg⟩; exact ⟨rfl, spread_gr hg⟩)))); go_big_quiet_on))))
    refine wpQuiet_nil ?_
    intro w2 hhw2
    have hw2 := Hd.gr_of_spread hhw2
    have cw2_0_0 : w2.cell? ⟨W.heap.size, 0, none⟩ = some (.int .u64 ah) := cell_gr hw2 (by go_simp)
    have cw2_0_1 : w2.cell? ⟨W.heap.size, 1, none⟩ = some (.int .u64 al) := cell_gr hw2 (by go_simp)
    have cw2_0_2 : w2.cell? ⟨W.heap.size, 2, none⟩ = some (.int .u64 ad) := cell_gr hw2 (by go_simp)
    have zw2_0 : W.heap.size < w2.heap.size := World.block_lt_of_cell? _ _ cw2_0_0
    have cw2_1_0 : w2.cell? ⟨W.heap.size + 1, 0, none⟩ = some (.int .u64 bh) := cell_gr hw2 (by go_simp)
    have cw2_1_1 : w2.cell? ⟨W.heap.size + 1, 1, none⟩ = some (.int .u64 bl) := cell_gr hw2 (by go_simp)
    have cw2_1_2 : w2.cell? ⟨W.heap.size + 1, 2, none⟩ = some (.int .u64 bd) := cell_gr hw2 (by go_simp)
    have zw2_1 : W.heap.size + 1 < w2.heap.size := World.block_lt_of_cell? _ _ cw2_1_0
    have cw2_2_0 : w2.cell? ⟨W.heap.size + 1 + 1, 0, none⟩ = some (.int .u64 ch) := cell_gr hw2 (by go_simp)
    have cw2_2_1 : w2.cell? ⟨W.heap.size + 1 + 1, 1, none⟩ = some (.int .u64 cl) := cell_gr hw2 (by go_simp)
    have cw2_2_2 : w2.cell? ⟨W.heap.size + 1 + 1, 2, none⟩ = some (.int .u64 cd) := cell_gr hw2 (by go_simp)
    have zw2_2 : W.heap.size + 1 + 1 < w2.heap.size := World.block_lt_of_cell? _ _ cw2_2_0
    have gw2 : Gr W w2 := Gr.trans (by have gg := gw1; have gs := gg.size; go_grown) hw2
    clear hw2 hhw2 gw1 zw1_0 cw1_0_0 cw1_0_1 cw1_0_2 zw1_1 cw1_1_0 cw1_1_1 cw1_1_2 zw1_2 cw1_2_0 cw1_2_1 cw1_2_2
    go_wp2_with fail
    go_at_call 27
    refine ((H6.out _)).mono ?_
    rintro e w3 ⟨rfl, hw3⟩
    have cw3_0_0 : w3.cell? ⟨W.heap.size, 0, none⟩ = some (.int .u64 ah) := cell_gr hw3 (by go_simp)
    have cw3_0_1 : w3.cell? ⟨W.heap.size, 1, none⟩ = some (.int .u64 al) := cell_gr hw3 (by go_simp)
    have cw3_0_2 : w3.cell? ⟨W.heap.size, 2, none⟩ = some (.int .u64 ad) := cell_gr hw3 (by go_simp)
    have zw3_0 : W.heap.size < w3.heap.size := World.block_lt_of_cell? _ _ cw3_0_0
    have cw3_1_0 : w3.cell? ⟨W.heap.size + 1, 0, none⟩ = some (.int .u64 bh) := cell_gr hw3 (by go_simp)
    have cw3_1_1 : w3.cell? ⟨W.heap.size + 1, 1, none⟩ = some (.int .u64 bl) := cell_gr hw3 (by go_simp)
    have cw3_1_2 : w3.cell? ⟨W.heap.size + 1, 2, none⟩ = some (.int .u64 bd) := cell_gr hw3 (by go_simp)
    have zw3_1 : W.heap.size + 1 < w3.heap.size := World.block_lt_of_cell? _ _ cw3_1_0
    have cw3_2_0 : w3.cell? ⟨W.heap.size + 1 + 1, 0, none⟩ = some (.int .u64 ch) := cell_gr hw3 (by go_simp)
    have cw3_2_1 : w3.cell? ⟨W.heap.size + 1 + 1, 1, none⟩ = some (.int .u64 cl) := cell_gr hw3 (by go_simp)
    have cw3_2_2 : w3.cell? ⟨W.heap.size + 1 + 1, 2, none⟩ = some (.int .u64 cd) := cell_gr hw3 (by go_simp)
    have zw3_2 : W.heap.size + 1 + 1 < w3.heap.size := World.block_lt_of_cell? _ _ cw3_2_0
    have gw3 : Gr W w3 := Gr.trans (by have gg := gw2; have gs := gg.size; go_grown) hw3
    clear hw3 gw2 zw2_0 cw2_0_0 cw2_0_1 cw2_0_2 zw2_1 cw2_1_0 cw2_1_1 cw2_1_2 zw2_2 cw2_2_0 cw2_2_1 cw2_2_2
    go_wp2_with fail
    go_at_call 25
    refine ((HAW.out _ (by have gg := gw3; have gs := gg.size; go_grown))).mono ?_
    rintro e w5 ⟨rfl, hw5⟩
    have cw5_0_0 : w5.cell? ⟨W.heap.size, 0, none⟩ = some (.int .u64 ah) := cell_gr hw5 (by go_simp)
    have cw5_0_1 : w5.cell? ⟨W.heap.size, 1, none⟩ = some (.int .u64 al) := cell_gr hw5 (by go_simp)
    have cw5_0_2 : w5.cell? ⟨W.heap.size, 2, none⟩ = some (.int .u64 ad) := cell_gr hw5 (by go_simp)
    have zw5_0 : W.heap.size < w5.heap.size := World.block_lt_of_cell? _ _ cw5_0_0
    have cw5_1_0 : w5.cell? ⟨W.heap.size + 1, 0, none⟩ = some (.int .u64 bh) := cell_gr hw5 (by go_simp)
    have cw5_1_1 : w5.cell? ⟨W.heap.size + 1, 1, none⟩ = some (.int .u64 bl) := cell_gr hw5 (by go_simp)
    have cw5_1_2 : w5.cell? ⟨W.heap.size + 1, 2, none⟩ = some (.int .u64 bd) := cell_gr hw5 (by go_simp)
    have zw5_1 : W.heap.size + 1 < w5.heap.size := World.block_lt_of_cell? _ _ cw5_1_0
    have cw5_2_0 : w5.cell? ⟨W.heap.size + 1 + 1, 0, none⟩ = some (.int .u64 ch) := cell_gr hw5 (by go_simp)
    have cw5_2_1 : w5.cell? ⟨W.heap.size + 1 + 1, 1, none⟩ = some (.int .u64 cl) := cell_gr hw5 (by go_simp)
    have cw5_2_2 : w5.cell? ⟨W.heap.size + 1 + 1, 2, none⟩ = some (.int .u64 cd) := cell_gr hw5 (by go_simp)
    have zw5_2 : W.heap.size + 1 + 1 < w5.heap.size := World.block_lt_of_cell? _ _ cw5_2_0
    have gw5 : Gr W w5 := Gr.trans (by have gg := gw3; have gs := gg.size; go_grown) hw5
    clear hw5 gw3 zw3_0 cw3_0_0 cw3_0_1 cw3_0_2 zw3_1 cw3_1_0 cw3_1_1 cw3_1_2 zw3_2 cw3_2_0 cw3_2_1 cw3_2_2
    go_wp2_with fail
    go_ret
    exact ⟨rfl, by go_grown⟩
  · go_enter Tryd.func6, Tryd.ntmps6
    go_wp2_with fail
    go_at_call 27
    refine ((H1.out _)).mono ?_
    rintro e w1 ⟨rfl, hw1⟩
    have cw1_0_0 : w1.cell? ⟨W.heap.size, 0, none⟩ = some (.int .u64 ah) := cell_gr hw1 (by go_simp)
    have cw1_0_1 : w1.cell? ⟨W.heap.size, 1, none⟩ = some (.int .u64 al) := cell_gr hw1 (by go_simp)
    have cw1_0_2 : w1.cell? ⟨W.heap.size, 2, none⟩ = some (.int .u64 ad) := cell_gr hw1 (by go_simp)
    have zw1_0 : W.heap.size < w1.heap.size := World.block_lt_of_cell? _ _ cw1_0_0
    have cw1_1_0 : w1.cell? ⟨W.heap.size + 1, 0, none⟩ = some (.int .u64 bh) := cell_gr hw1 (by go_simp)
    have cw1_1_1 : w1.cell? ⟨W.heap.size + 1, 1, none⟩ = some (.int .u64 bl) := cell_gr hw1 (by go_simp)
    have cw1_1_2 : w1.cell? ⟨W.heap.size + 1, 2, none⟩ = some (.int .u64 bd) := cell_gr hw1 (by go_simp)
    have zw1_1 : W.heap.size + 1 < w1.heap.size := World.block_lt_of_cell? _ _ cw1_1_0
    have cw1_2_0 : w1.cell? ⟨W.heap.size + 1 + 1, 0, none⟩ = some (.int .u64 ch) := cell_gr hw1 (by go_simp)
    have cw1_2_1 : w1.cell? ⟨W.heap.size + 1 + 1, 1, none⟩ = some (.int .u64 cl) := cell_gr hw1 (by go_simp)
    have cw1_2_2 : w1.cell? ⟨W.heap.size + 1 + 1, 2, none⟩ = some (.int .u64 cd) := cell_gr hw1 (by go_simp)
    have zw1_2 : W.heap.size + 1 + 1 < w1.heap.size := World.block_lt_of_cell? _ _ cw1_2_0
    have gw1 : Gr W w1 := Gr.trans (by go_grown) hw1
    clear hw1
    go_wp2_with fail
    refine wp_region_spread (by kernel_rfl) (by kernel_rfl) ?_
    try simp only [List.append]
    repeat (first | go_big_quiet_skip | (go_big_quiet_want; go_big_quiet_op; (first | go_big_quiet_on | (apply Exists.intro; refine ⟨fun _ => ?_, ?_⟩; (· (first | (go_at_call 27; first | ((with_reducible refine ((H2.out _)).mono ?_); rintro e w' ⟨rfl, hg⟩; exact ⟨rfl, spread_gr hg⟩) | ((with_reducible refine ((H3.out _)).mono ?_); rintro e w' ⟨rfl, hg⟩; exact ⟨rfl, spread_gr hg⟩)) | (go_at_call 28; first | ((with_reducible refine ((H4.out _ (Gr.trans (by have gg := gw1; have gs := gg.size; go_grown) (gr_spread _ _)))).mono ?_); rintro e w' ⟨rfl, hg⟩; exact ⟨rfl, spread_gr hg⟩) | ((with_reducible refine ((H5.out _ (Gr.trans (by have gg := gw1; have gs := gg.size; go_grown) (gr_spread _ _)))).mono ?_); rintro e w' ⟨rfl, hg⟩; exact ⟨rfl, spread_gr hg⟩)))); go_big_quiet_on))))
    refine wpQuiet_nil ?_
    intro w2 hhw2
    have hw2 := Hd.gr_of_spread hhw2
    have cw2_0_0 : w2.cell? ⟨W.heap.size, 0, none⟩ = some (.int .u64 ah) := cell_gr hw2 (by go_simp)
    have cw2_0_1 : w2.cell? ⟨W.heap.size, 1, none⟩ = some (.int .u64 al) := cell_gr hw2 (by go_simp)
    have cw2_0_2 : w2.cell? ⟨W.heap.size, 2, none⟩ = some (.int .u64 ad) := cell_gr hw2 (by go_simp)
    have zw2_0 : W.heap.size < w2.heap.size := World.block_lt_of_cell? _ _ cw2_0_0
    have cw2_1_0 : w2.cell? ⟨W.heap.size + 1, 0, none⟩ = some (.int .u64 bh) := cell_gr hw2 (by go_simp)
    have cw2_1_1 : w2.cell? ⟨W.heap.size + 1, 1, none⟩ = some (.int .u64 bl) := cell_gr hw2 (by go_simp)
    have cw2_1_2 : w2.cell? ⟨W.heap.size + 1, 2, none⟩ = some (.int .u64 bd) := cell_gr hw2 (by go_simp)
    have zw2_1 : W.heap.size + 1 < w2.heap.size := World.block_lt_of_cell? _ _ cw2_1_0
    have cw2_2_0 : w2.cell? ⟨W.heap.size + 1 + 1, 0, none⟩ = some (.int .u64 ch) := cell_gr hw2 (by go_simp)
    have cw2_2_1 : w2.cell? ⟨W.heap.size + 1 + 1, 1, none⟩ = some (.int .u64 cl) := cell_gr hw2 (by go_simp)
    have cw2_2_2 : w2.cell? ⟨W.heap.size + 1 + 1, 2, none⟩ = some (.int .u64 cd) := cell_gr hw2 (by go_simp)
    have zw2_2 : W.heap.size + 1 + 1 < w2.heap.size := World.block_lt_of_cell? _ _ cw2_2_0
    have gw2 : Gr W w2 := Gr.trans (by have gg := gw1; have gs := gg.size; go_grown) hw2
    clear hw2 hhw2 gw1 zw1_0 cw1_0_0 cw1_0_1 cw1_0_2 zw1_1 cw1_1_0 cw1_1_1 cw1_1_2 zw1_2 cw1_2_0 cw1_2_1 cw1_2_2
    go_wp2_with fail
    go_at_call 27
    refine ((H6.out _)).mono ?_
    rintro e w3 ⟨rfl, hw3⟩
    have cw3_0_0 : w3.cell? ⟨W.heap.size, 0, none⟩ = some (.int .u64 ah) := cell_gr hw3 (by go_simp)
    have cw3_0_1 : w3.cell? ⟨W.heap.size, 1, none⟩ = some (.int .u64 al) := cell_gr hw3 (by go_simp)
    have cw3_0_2 : w3.cell? ⟨W.heap.size, 2, none⟩ = some (.int .u64 ad) := cell_gr hw3 (by go_simp)
    have zw3_0 : W.heap.size < w3.heap.size := World.block_lt_of_cell? _ _ cw3_0_0
    have cw3_1_0 : w3.cell? ⟨W.heap.size + 1, 0, none⟩ = some (.int .u64 bh) := cell_gr hw3 (by go_simp)
    have cw3_1_1 : w3.cell? ⟨W.heap.size + 1, 1, none⟩ = some (.int .u64 bl) := cell_gr hw3 (by go_simp)
    have cw3_1_2 : w3.cell? ⟨W.heap.size + 1, 2, none⟩ = some (.int .u64 bd) := cell_gr hw3 (by go_simp)
    have zw3_1 : W.heap.size + 1 < w3.heap.size := World.block_lt_of_cell? _ _ cw3_1_0
    have cw3_2_0 : w3.cell? ⟨W.heap.size + 1 + 1, 0, none⟩ = some (.int .u64 ch) := cell_gr hw3 (by go_simp)
    have cw3_2_1 : w3.cell? ⟨W.heap.size + 1 + 1, 1, none⟩ = some (.int .u64 cl) := cell_gr hw3 (by go_simp)
    have cw3_2_2 : w3.cell? ⟨W.heap.size + 1 + 1, 2, none⟩ = some (.int .u64 cd) := cell_gr hw3 (by go_simp)
    have zw3_2 : W.heap.size + 1 + 1 < w3.heap.size := World.block_lt_of_cell? _ _ cw3_2_0
    have gw3 : Gr W w3 := Gr.trans (by have gg := gw2; have gs := gg.size; go_grown) hw3
    clear hw3 gw2 zw2_0 cw2_0_0 cw2_0_1 cw2_0_2 zw2_1 cw2_1_0 cw2_1_1 cw2_1_2 zw2_2 cw2_2_0 cw2_2_1 cw2_2_2
    go_wp2_with fail
    go_at_call 27
    refine ((H7.out _)).mono ?_
    rintro e w4 ⟨rfl, hw4⟩
    have cw4_0_0 : w4.cell? ⟨W.heap.size, 0, none⟩ = some (.int .u64 ah) := cell_gr hw4 (by go_simp)
    have cw4_0_1 : w4.cell? ⟨W.heap.size, 1, none⟩ = some (.int .u64 al) := cell_gr hw4 (by go_simp)
    have cw4_0_2 : w4.cell? ⟨W.heap.size, 2, none⟩ = some (.int .u64 ad) := cell_gr hw4 (by go_simp)
    have zw4_0 : W.heap.size < w4.heap.size := World.block_lt_of_cell? _ _ cw4_0_0
    have cw4_1_0 : w4.cell? ⟨W.heap.size + 1, 0, none⟩ = some (.int .u64 bh) := cell_gr hw4 (by go_simp)
    have cw4_1_1 : w4.cell? ⟨W.heap.size + 1, 1, none⟩ = some (.int .u64 bl) := cell_gr hw4 (by go_simp)
    have cw4_1_2 : w4.cell? ⟨W.heap.size + 1, 2, none⟩ = some (.int .u64 bd) := cell_gr hw4 (by go_simp)
    have zw4_1 : W.heap.size + 1 < w4.heap.size := World.block_lt_of_cell? _ _ cw4_1_0
    have cw4_2_0 : w4.cell? ⟨W.heap.size + 1 + 1, 0, none⟩ = some (.int .u64 ch) := cell_gr hw4 (by go_simp)
    have cw4_2_1 : w4.cell? ⟨W.heap.size + 1 + 1, 1, none⟩ = some (.int .u64 cl) := cell_gr hw4 (by go_simp)
    have cw4_2_2 : w4.cell? ⟨W.heap.size + 1 + 1, 2, none⟩ = some (.int .u64 cd) := cell_gr hw4 (by go_simp)
    have zw4_2 : W.heap.size + 1 + 1 < w4.heap.size := World.block_lt_of_cell? _ _ cw4_2_0
    have gw4 : Gr W w4 := Gr.trans (by have gg := gw3; have gs := gg.size; go_grown) hw4
    clear hw4 gw3 zw3_0 cw3_0_0 cw3_0_1 cw3_0_2 zw3_1 cw3_1_0 cw3_1_1 cw3_1_2 zw3_2 cw3_2_0 cw3_2_1 cw3_2_2
    go_wp2_with fail
    go_at_call 25
    refine ((HAW.out _ (by have gg := gw4; have gs := gg.size; go_grown))).mono ?_
    rintro e w5 ⟨rfl, hw5⟩
    have cw5_0_0 : w5.cell? ⟨W.heap.size, 0, none⟩ = some (.int .u64 ah) := cell_gr hw5 (by go_simp)
    have cw5_0_1 : w5.cell? ⟨W.heap.size, 1, none⟩ = some (.int .u64 al) := cell_gr hw5 (by go_simp)
    have cw5_0_2 : w5.cell? ⟨W.heap.size, 2, none⟩ = some (.int .u64 ad) := cell_gr hw5 (by go_simp)
    have zw5_0 : W.heap.size < w5.heap.size := World.block_lt_of_cell? _ _ cw5_0_0
    have cw5_1_0 : w5.cell? ⟨W.heap.size + 1, 0, none⟩ = some (.int .u64 bh) := cell_gr hw5 (by go_simp)
    have cw5_1_1 : w5.cell? ⟨W.heap.size + 1, 1, none⟩ = some (.int .u64 bl) := cell_gr hw5 (by go_simp)
    have cw5_1_2 : w5.cell? ⟨W.heap.size + 1, 2, none⟩ = some (.int .u64 bd) := cell_gr hw5 (by go_simp)
    have zw5_1 : W.heap.size + 1 < w5.heap.size := World.block_lt_of_cell? _ _ cw5_1_0
    have cw5_2_0 : w5.cell? ⟨W.heap.size + 1 + 1, 0, none⟩ = some (.int .u64 ch) := cell_gr hw5 (by go_simp)
    have cw5_2_1 : w5.cell? ⟨W.heap.size + 1 + 1, 1, none⟩ = some (.int .u64 cl) := cell_gr hw5 (by go_simp)
    have cw5_2_2 : w5.cell? ⟨W.heap.size + 1 + 1, 2, none⟩ = some (.int .u64 cd) := cell_gr hw5 (by go_simp)
    have zw5_2 : W.heap.size + 1 + 1 < w5.heap.size := World.block_lt_of_cell? _ _ cw5_2_0
    have gw5 : Gr W w5 := Gr.trans (by have gg := gw4; have gs := gg.size; go_grown) hw5
    clear hw5 gw4 zw4_0 cw4_0_0 cw4_0_1 cw4_0_2 zw4_1 cw4_1_0 cw4_1_1 cw4_1_2 zw4_2 cw4_2_0 cw4_2_1 cw4_2_2
    go_wp2_with fail
    go_ret
    exact ⟨rfl, by go_grown⟩
theorem walk_RatioOrder (ah al ad bh bl bd ch cl cd : Nat) (h1 : Wd ah ∧ Wd al ∧ Wd ad) (h2 : Wd bh ∧ Wd bl ∧ Wd bd) (h3 : Wd ch ∧ Wd cl ∧ Wd cd) (W : World) (hp : Lib.TabIs Tryd.prog W "internal/strconv.uint64pow10" .u64 Lib.pow10Tab) :
    Calls Tryd.prog 6 #[.agg #[.int .u64 ah, .int .u64 al, .int .u64 ad], .agg #[.int .u64 bh, .int .u64 bl, .int .u64 bd], .agg #[.int .u64 ch, .int .u64 cl, .int .u64 cd]] W fun e w' => e = .returned (.bool true) ∧ Gr W w' := by
  have A1 := c_rtCompare ah al ad bh bl bd h1.1 h1.2.1 h1.2.2 h2.1 h2.2.1 h2.2.2
  have A2 := c_rtCompare bh bl bd ah al ad h2.1 h2.2.1 h2.2.2 h1.1 h1.2.1 h1.2.2
  have A3 := c_rtCompare ah al ad ah al ad h1.1 h1.2.1 h1.2.2 h1.1 h1.2.1 h1.2.2
  have A6 := c_rtCompare bh bl bd ch cl cd h2.1 h2.2.1 h2.2.2 h3.1 h3.2.1 h3.2.2
  have A7 := c_rtCompare ah al ad ch cl cd h1.1 h1.2.1 h1.2.2 h3.1 h3.2.1 h3.2.2
  have tr := @cmpD_trans (val ah al) ad (val bh bl) bd (val ch cl) cd
  have ng := cmpD_neg (val ah al) ad (val bh bl) bd
  have sf := cmpD_neg (val ah al) ad (val ah al) ad
  have z := txtD_iff (val ah al) ad (val bh bl) bd
  have bx : -1 ≤ cmpD (val ah al) ad (val bh bl) bd ∧ cmpD (val ah al) ad (val bh bl) bd ≤ 1 := by
    unfold cmpD cmpN
    split <;> split <;> (try split) <;> (try split) <;> omega
  rw [show cmpD (val ah al) ad (val ah al) ad = 0 by omega] at A3
  refine order_core ah al ad bh bl bd ch cl cd _ _ _ _ _ _ _ W hp (by rw [ng]; omega) (IntWalk.wrap64_in _ (by omega)) (IntWalk.i64_in _ (by omega)) z (eq_str _ _) ?_ A1 A2 A3 (fun w g => c_rtTextD ah al ad h1.1 h1.2.1 h1.2.2 w (tab_below hp g)) (fun w g => c_rtTextD bh bl bd h2.1 h2.2.1 h2.2.2 w (tab_below hp g)) A6 A7
  by_cases c1 : 0 < cmpD (val ah al) ad (val bh bl) bd
  · exact Or.inl (decide_eq_true c1)
  · right
    by_cases c2 : 0 < cmpD (val bh bl) bd (val ch cl) cd
    · exact Or.inl ⟨decide_eq_false c1, decide_eq_true c2⟩
    · exact Or.inr ⟨decide_eq_false c1, decide_eq_false c2, decide_eq_true (tr (by omega) (by omega)).1⟩
end Go.Proofs.YthjhhnolkiejpaaDoor
