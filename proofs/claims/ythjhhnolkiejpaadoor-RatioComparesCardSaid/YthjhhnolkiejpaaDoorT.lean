/- wide's division and its decimal text. -/
import Derived.Test.YthjhhnolkiejpaaDoorD
import Derived.Deep.LoopGhost
namespace Go.Proofs.YthjhhnolkiejpaaDoor
set_option linter.unusedVariables false
open Go.ChangeShapes Go.WideShapes Go.ChangeAt Go.RowKit

theorem divVal {ah al b : Nat} (hb : 1 ≤ b) (h1 : Wd ah) (h2 : Wd al) (h3 : Wd b) :
    val ah al / b = val (ah / b) (val (ah % b) al / b) ∧ val ah al % b = val (ah % b) al % b ∧ val (ah % b) al / b < 18446744073709551616 := by
  have hlt : ah % b < b := Nat.mod_lt _ hb
  have e : val ah al = b * (ah / b * 18446744073709551616) + val (ah % b) al := by
    unfold val
    have := Nat.div_add_mod ah b
    conv => lhs; rw [← this, Nat.add_mul, Nat.mul_assoc]
    omega
  have hq : val (ah % b) al / b < 18446744073709551616 := by
    rw [Nat.div_lt_iff_lt_mul hb]
    unfold val Wd at *
    have : (ah % b + 1) * 18446744073709551616 ≤ b * 18446744073709551616 := Nat.mul_le_mul_right _ hlt
    omega
  refine ⟨?_, ?_, hq⟩
  · rw [e, Nat.mul_add_div hb]
    rfl
  · rw [e, Nat.mul_add_mod]

theorem c_Divide (ah al b : Nat) (hb : 1 ≤ b) (h1 : Wd ah) (h2 : Wd al) (h3 : Wd b) (w : World) :
    Calls Tryd.prog 51 #[.agg #[.int .u64 ah, .int .u64 al], .int .u64 b] w fun e w' => e = .returned (.tuple #[.agg #[.int .u64 ((val ah al / b / 18446744073709551616 : Nat) : Int), .int .u64 ((val ah al / b % 18446744073709551616 : Nat) : Int)], .int .u64 ((val ah al % b : Nat) : Int)]) ∧ Gr w w' := by
  obtain ⟨e1, e2, e3⟩ := divVal hb h1 h2 h3
  obtain ⟨q, hq⟩ : ∃ q, q = ah / b := ⟨_, rfl⟩
  obtain ⟨r, hr⟩ : ∃ r, r = ah % b := ⟨_, rfl⟩
  obtain ⟨l, hl⟩ : ∃ l, l = val r al / b := ⟨_, rfl⟩
  obtain ⟨m, hm⟩ : ∃ m, m = val r al % b := ⟨_, rfl⟩
  rw [← hr, ← hl] at e3
  rw [← hq, ← hr, ← hl] at e1
  rw [← hr, ← hm] at e2
  have f1 : val ah al / b / 18446744073709551616 = q := by rw [e1]; unfold val; omega
  have f2 : val ah al / b % 18446744073709551616 = l := by rw [e1]; unfold val; omega
  rw [f1, f2, e2]
  have hqi : (ah : Int) / (b : Int) = (q : Int) := by rw [hq, Int.natCast_ediv]
  have hri : (ah : Int) % (b : Int) = (r : Int) := by rw [hr, Int.natCast_emod]
  have hql : q ≤ 18446744073709551615 := by rw [hq]; have := Nat.div_le_self ah b; unfold Wd at h1; omega
  have hb0 : ((b : Int) == 0) = false := by simp; omega
  have D := c_Div64 r al b (by rw [hr]; exact Nat.mod_lt _ hb) h3 h2
  rw [← hl, ← hm] at D
  have HD := Lib.hid D
  have hb1 : (1 : Int) ≤ (b : Int) := by omega
  clear D e1 e2 e3 f1 f2 hq hr hl hm h1 h2 h3 hb
  go_enter Tryd.func51, Tryd.ntmps51
  go_wp2_with fail
  go_quiet (fail)
  go_wp2_with (go_at_call 70; (with_reducible refine (HD.out _).mono ?_); rintro e w' ⟨rfl, hg⟩; obtain ⟨hc, hf⟩ := bcell hg)
  have hgw : Gr w w' := Gr.trans (Gr.drewN (by go_grown) _) hg
  refine bodyPost_ret (v := .tuple #[.agg #[.int .u64 q, .int .u64 l], .int .u64 m]) (by simp [results, Tryd.results51, go_sem, hc]) rfl ⟨rfl, ?_⟩
  clear hc hf hg
  go_grown
/-- A number below ten to the 19th, in nineteen places. -/
def pad19 (r : Nat) : List UInt8 := List.replicate (19 - Lib.nDigits r) 48 ++ Lib.decDigits r
theorem nDig_le {r k : Nat} (hk : 1 ≤ k) (h : r < 10 ^ k) : Lib.nDigits r ≤ k := by
  induction k generalizing r with
  | zero => omega
  | succ k ih =>
    by_cases h10 : r < 10
    · rw [Lib.nDigits_small h10]; omega
    · rw [Lib.nDigits_big h10]
      have hk1 : 1 ≤ k := by
        rcases Nat.eq_zero_or_pos k with rfl | g
        · simp at h; omega
        · exact g
      have := ih (r := r / 10) hk1 (by rw [Nat.pow_succ] at h; omega)
      omega
theorem dg_mod {u j k : Nat} (h : j < k) : Lib.dg (u % 10 ^ k) j = Lib.dg u j := by
  unfold Lib.dg
  have : u % 10 ^ k / 10 ^ j % 10 = u / 10 ^ j % 10 := by
    obtain ⟨d, rfl⟩ : ∃ d, k = j + 1 + d := ⟨k - (j + 1), by omega⟩
    rw [Nat.pow_add, Nat.pow_succ, Nat.mul_assoc, Nat.mod_mul_right_div_self, Nat.mod_mul_right_mod]
  rw [this]
theorem dg_small {u j : Nat} (h : u < 10 ^ j) : Lib.dg u j = 48 := by
  unfold Lib.dg
  rw [Nat.div_eq_of_lt h]
  rfl
theorem dg_div {u k j : Nat} : Lib.dg (u / 10 ^ k) j = Lib.dg u (k + j) := by
  unfold Lib.dg
  rw [Nat.div_div_eq_div_mul, ← Nat.pow_add]
theorem pad19_eq (r : Nat) (h : r < 10 ^ 19) : pad19 r = (List.range 19).map fun t => Lib.dg r (18 - t) := by
  have hn := nDig_le (by omega) h
  have h1 := Lib.nDigits_pos r
  unfold pad19
  refine List.ext_getElem (by simp [Lib.decDigits_length]; omega) fun i hi1 hi2 => ?_
  simp at hi2
  rw [List.getElem_append]
  split
  · rename_i hlt
    simp at hlt ⊢
    have := Nat.pow_le_pow_right (n := 10) (by omega) (show Lib.nDigits r ≤ 18 - i by omega)
    rw [dg_small (Nat.lt_of_lt_of_le (Lib.lt_pow_nDigits r) this)]
  · rename_i hge
    simp at hge
    have he := Lib.decDigits_eq r
    simp only [he, List.getElem_map, List.getElem_range, List.length_replicate]
    congr 1
    omega
/-- The digits of a number are those of its higher part, then its lower nineteen. -/
theorem digits_split (n : Nat) (h : 10 ^ 19 ≤ n) : Lib.decDigits n = Lib.decDigits (n / 10 ^ 19) ++ pad19 (n % 10 ^ 19) := by
  have hlt : n % 10 ^ 19 < 10 ^ 19 := Nat.mod_lt _ (by omega)
  have hnd : ∀ k n : Nat, 10 ^ k ≤ n → Lib.nDigits n = Lib.nDigits (n / 10 ^ k) + k := by
    intro k
    induction k with
    | zero => intro n _; simp
    | succ k ih =>
      intro n hn
      have h10 : ¬ n < 10 := by
        have := Nat.one_le_two_pow (n := k)
        have h1 : 10 ^ 1 ≤ 10 ^ (k + 1) := Nat.pow_le_pow_right (by omega) (by omega)
        omega
      rw [Lib.nDigits_big h10, ih (n / 10) (by rw [Nat.pow_succ] at hn; omega), Nat.div_div_eq_div_mul, Nat.pow_succ, Nat.mul_comm 10]
      omega
  have hN := hnd 19 n h
  rw [pad19_eq _ hlt, Lib.decDigits_eq n, Lib.decDigits_eq (n / 10 ^ 19), hN]
  generalize Lib.nDigits (n / 10 ^ 19) = m
  refine List.ext_getElem (by simp) fun i hi1 hi2 => ?_
  simp at hi1 hi2
  rw [List.getElem_append]
  split
  · rename_i hl
    simp at hl
    simp only [List.getElem_map, List.getElem_range]
    rw [dg_div]
    congr 1
    omega
  · rename_i hl
    simp at hl
    simp only [List.getElem_map, List.getElem_range, List.length_map, List.length_range]
    rw [dg_mod (by omega)]
    congr 1
    omega

theorem ba_append (a b : List UInt8) : (⟨a.toArray⟩ : ByteArray) ++ ⟨b.toArray⟩ = ⟨(a ++ b).toArray⟩ := by
  apply ByteArray.ext
  simp
/-- What holds at the head of Text's loop: what is left in the cells, what stands in the tail. -/
def TextRel (B N : Nat) (W : World) (k : Nat) (tail : Value) (wr : World) : Prop :=
  ∃ (h l : Nat) (T : List UInt8), Wd h ∧ Wd l ∧ h ≤ k ∧ Lib.decDigits N = Lib.decDigits (val h l) ++ T ∧ T.length ≤ 1000 ∧ tail = .string ⟨T.toArray⟩ ∧
    wr.cell? ⟨B, 0, none⟩ = some (.int .u64 h) ∧ wr.cell? ⟨B, 1, none⟩ = some (.int .u64 l) ∧ wr.frozen? ⟨B, 0, none⟩ = false ∧ wr.frozen? ⟨B, 1, none⟩ = false ∧ B < wr.heap.size ∧ Gr W wr

/-- by 53 -/
theorem pad_str (r : Nat) (h : r < 10 ^ 19) : Lib.repeatL [48] (19 - (Lib.decDigits r).length) ++ Lib.decDigits r = pad19 r := by
  have := Lib.repeatL_replicate 48 1 (19 - (Lib.decDigits r).length)
  simp only [List.replicate_one, Nat.mul_one] at this
  rw [this, Lib.decDigits_length]
  rfl

set_option maxHeartbeats 2000000 in
set_option maxRecDepth 100000 in
theorem c_Text (hi lo : Nat) (h1 : Wd hi) (h2 : Wd lo) (w : World) (hp : Lib.TabIs Tryd.prog w "internal/strconv.uint64pow10" .u64 Lib.pow10Tab) :
    Calls Tryd.prog 23 #[.agg #[.int .u64 hi, .int .u64 lo]] w fun e w' => e = .returned (.string ⟨(Lib.decDigits (val hi lo)).toArray⟩) ∧ Gr w w' := by
  obtain ⟨N, hN⟩ : ∃ N, N = val hi lo := ⟨_, rfl⟩
  rw [← hN]
  have hnd : Lib.nDigits N ≤ 39 := by
    refine nDig_le (by omega) ?_
    rw [hN]; unfold val Wd at *; omega
  have HN := Lib.hid hN
  clear hN
  go_enter Tryd.func23, Tryd.ntmps23
  go_wp2_with fail
  go_loopg [3] hi (fun k v wr => TextRel w.heap.size N w k v wr)
  case atStart => exact ⟨hi, lo, [], h1, h2, Nat.le_refl _, by rw [List.append_nil, HN.out], by simp, rfl, by simp [World.cell?_alloc_new], by simp [World.cell?_alloc_new], by simp, by simp, by simp, by go_grown⟩
  case round =>
    obtain ⟨h, l, T, hh, hl, hk, hT, hTl, rfl, c0, c1, f0, f1, hsz, hg⟩ := hrel
    rcases Nat.eq_zero_or_pos h with rfl | hpos
    · have hv : val 0 l = l := by unfold val; omega
      rw [hv] at hT
      have HT := Lib.hid hT
      clear hT hv
      go_wp2_with fail
      go_at_call 52
      refine (c_FormatUint l hl _ (tab_below hp hg)).mono ?_
      rintro e w1 ⟨rfl, hg1⟩
      have hsum : ¬ 9223372036854775807 < (Lib.decDigits l).length + T.length := by
        have := congrArg List.length HT.out
        rw [Lib.decDigits_length, List.length_append] at this
        omega
      go_wp2_with fail
      go_ret
      refine ⟨?_, Gr.trans hg hg1⟩
      show Ending.returned (.string ((⟨(Lib.decDigits l).toArray⟩ : ByteArray) ++ ⟨T.toArray⟩)) = _
      rw [ba_append, ← HT.out]
    · obtain ⟨v, hv⟩ : ∃ v, v = val h l := ⟨_, rfl⟩
      obtain ⟨qh, hqh⟩ : ∃ q, q = v / 10000000000000000000 / 18446744073709551616 := ⟨_, rfl⟩
      obtain ⟨ql, hql⟩ : ∃ q, q = v / 10000000000000000000 % 18446744073709551616 := ⟨_, rfl⟩
      obtain ⟨r, hr⟩ : ∃ r, r = v % 10000000000000000000 := ⟨_, rfl⟩
      have hrl : r < 10 ^ 19 := by rw [hr]; exact Nat.mod_lt _ (by omega)
      have hrw : Wd r := by unfold Wd; omega
      have hvge : 10 ^ 19 ≤ v := by rw [hv]; unfold val; omega
      have hvq : val qh ql = v / 10 ^ 19 := by rw [hqh, hql]; unfold val; omega
      have hqhw : Wd qh := by rw [hqh, hv]; unfold val Wd at *; omega
      have hqlw : Wd ql := by rw [hql]; unfold Wd; exact Nat.mod_lt _ (by omega)
      have hqk : qh < h := by rw [hqh, hv]; unfold val Wd at *; omega
      have D := c_Divide h l 10000000000000000000 (by omega) hh hl (by unfold Wd; omega) wr
      rw [← hv, ← hqh, ← hql, ← hr] at D
      have hsplit := digits_split v hvge
      rw [← hv, hsplit, ← hvq, List.append_assoc, show v % 10 ^ 19 = r from hr.symm, ← pad_str r hrl] at hT
      have HT := Lib.hid hT
      have hnr : (Lib.decDigits r).length ≤ 19 := by rw [Lib.decDigits_length]; exact nDig_le (by omega) hrl
      have hh0 : ((h : Int) == 0) = false := by simp; omega
      have HD := Lib.hid D
      clear D hsplit hT hv hqh hql hr hvge hvq
      go_wp2_with fail
      go_at_call 51
      refine HD.out.mono ?_
      rintro e w1 ⟨rfl, hg1⟩
      obtain ⟨hc1, hf1⟩ := bcell hg1
      have hs1 := hg1.size
      have d0 : w1.cell? ⟨w.heap.size, 0, none⟩ = some (.int .u64 h) := (hc1 _ _ hsz).trans c0
      have d1 : w1.cell? ⟨w.heap.size, 1, none⟩ = some (.int .u64 l) := (hc1 _ _ hsz).trans c1
      have e0 : w1.frozen? ⟨w.heap.size, 0, none⟩ = false := (hf1 _ _ hsz).trans f0
      have e1 : w1.frozen? ⟨w.heap.size, 1, none⟩ = false := (hf1 _ _ hsz).trans f1
      have hgw : Gr w w1 := Gr.trans hg hg1
      clear hc1 hf1 c0 c1 f0 f1
      go_wp2_with fail
      obtain ⟨W2, hW2⟩ : ∃ W2, W2 = (w1.setCell ⟨w.heap.size, 0, none⟩ (.int .u64 qh)).setCell ⟨w.heap.size, 1, none⟩ (.int .u64 ql) := ⟨_, rfl⟩
      have hgw2 : Gr w W2 := by rw [hW2]; exact Below.setCell (Below.setCell hgw (Nat.le_refl _) _) (Nat.le_refl _) _
      have k0 : W2.cell? ⟨w.heap.size, 0, none⟩ = some (.int .u64 qh) := by
        rw [hW2, World.cell?_setCell_other _ _ _ _ (by simp)]; exact World.cell?_setCell_same _ _ _ d0
      have k1 : W2.cell? ⟨w.heap.size, 1, none⟩ = some (.int .u64 ql) := by
        rw [hW2]; exact World.cell?_setCell_same _ _ _ (by rw [World.cell?_setCell_other _ _ _ _ (by simp)]; exact d1)
      have m0 : W2.frozen? ⟨w.heap.size, 0, none⟩ = false := by rw [hW2, World.frozen?_setCell, World.frozen?_setCell]; exact e0
      have m1 : W2.frozen? ⟨w.heap.size, 1, none⟩ = false := by rw [hW2, World.frozen?_setCell, World.frozen?_setCell]; exact e1
      have hs2' : w.heap.size < W2.heap.size := by rw [hW2]; simp; omega
      rw [← hW2]
      clear hW2 d0 d1 e0 e1 hs1 hgw
      go_at_call 52
      refine (c_FormatUint r hrw _ (tab_below hp hgw2)).mono ?_
      rintro e w2 ⟨rfl, hg2⟩
      have hlen : (19 : Int) - ((Lib.decDigits r).length : Int) = ((19 - (Lib.decDigits r).length : Nat) : Int) := by omega
      go_wp2_with fail
      go_at_call 53
      refine (Tryd.strings_Repeat ⟨#[48]⟩ (19 - (Lib.decDigits r).length) w2 (by omega) (by show 1 * _ ≤ _; omega)).mono ?_
      rintro e w3 ⟨rfl, hg3⟩
      have hrl : (Lib.repeatL [48] (19 - (Lib.decDigits r).length)).length ≤ 19 := by rw [Lib.repeatL_length]; simp
      have hs1 : ¬ 9223372036854775807 < (Lib.repeatL [48] (19 - (Lib.decDigits r).length)).length + (Lib.decDigits r).length := by omega
      have hs2 : ¬ 9223372036854775807 < (Lib.repeatL [48] (19 - (Lib.decDigits r).length)).length + (Lib.decDigits r).length + T.length := by omega
      have q0 : w3.cell? ⟨w.heap.size, 0, none⟩ = some (.int .u64 qh) := ((bcell (Gr.trans hg2 hg3)).1 _ _ hs2').trans k0
      have q1 : w3.cell? ⟨w.heap.size, 1, none⟩ = some (.int .u64 ql) := ((bcell (Gr.trans hg2 hg3)).1 _ _ hs2').trans k1
      have p0 : w3.frozen? ⟨w.heap.size, 0, none⟩ = false := ((bcell (Gr.trans hg2 hg3)).2 _ _ hs2').trans m0
      have p1 : w3.frozen? ⟨w.heap.size, 1, none⟩ = false := ((bcell (Gr.trans hg2 hg3)).2 _ _ hs2').trans m1
      have hT2 : (Lib.repeatL [48] (19 - (Lib.decDigits r).length) ++ Lib.decDigits r ++ T).length ≤ 1000 := by
        have := congrArg List.length HT.out
        rw [Lib.decDigits_length, List.length_append] at this
        rw [List.length_append] at this
        simp only [List.length_append] at this ⊢
        omega
      have HT2 := Lib.hid hT2
      clear hT2 k0 k1 m0 m1 hrl
      go_wp2_with fail
      go_roundg qh
      case measure => omega
      case rel => exact ⟨qh, ql, _, hqhw, hqlw, Nat.le_refl _, by rw [HT.out], HT2.out, by rw [ba_append, ba_append], q0, q1, p0, p1, by have := (Gr.trans hg2 hg3).size; omega, Gr.trans hgw2 (Gr.trans hg2 hg3)⟩
end Go.Proofs.YthjhhnolkiejpaaDoor
