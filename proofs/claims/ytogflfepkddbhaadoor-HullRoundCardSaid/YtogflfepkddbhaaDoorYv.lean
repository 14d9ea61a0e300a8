/- HullTurns: in whatever order points stand, and how often; the farthest two are corners -/
import Derived.Test.YtogflfepkddbhaaDoorYs
namespace Go.Proofs.YtogflfepkddbhaaDoor
set_option linter.unusedVariables false
set_option linter.unusedSimpArgs false
open Go.ChangeShapes Go.WideShapes Go.ChangeAt Go.RowKit

/-- From the k-th on. -/
def shF (X : Nat → Int) (k t : Nat) : Int := X (k + t)
/-- From the k-th on, and then all. -/
def turnL (n k : Nat) (X Y : Nat → Int) : List Hp.Pt := lsP (n - k) (shF X k) (shF Y k) ++ lsP n X Y
theorem turnL_mem {n k : Nat} {X Y : Nat → Int} {p : Hp.Pt} : p ∈ turnL n k X Y ↔ p ∈ lsP n X Y := by
  unfold turnL
  rw [List.mem_append]
  constructor
  · rintro (h | h)
    · obtain ⟨t, ht, rfl⟩ := lsP_mem.1 h
      exact lsP_mem.2 ⟨k + t, by omega, rfl⟩
    · exact h
  · exact .inr
theorem turnL_len (n k : Nat) (X Y : Nat → Int) : (turnL n k X Y).length = n - k + n := by unfold turnL; rw [List.length_append, lsP_len, lsP_len]
theorem lsP_list (l : List Hp.Pt) : lsP l.length (fX l) (fY l) = l := by
  apply List.ext_getElem
  · rw [lsP_len]
  · intro i h1 h2
    have := lsP_at (n := l.length) (X := fX l) (Y := fY l) h2
    rw [List.getD_eq_getElem?_getD, List.getElem?_eq_getElem h1] at this
    simp only [Option.getD_some] at this
    rw [this]
    unfold fX fY
    rw [List.getD_eq_getElem?_getD, List.getElem?_eq_getElem h2]; rfl
/-- What holds of all points of a list holds of the row. -/
theorem mnC_list {n : Nat} {X Y : Nat → Int} {l : List Hp.Pt} (hm : ∀ p, p ∈ l ↔ p ∈ lsP n X Y) (h1 : 1 ≤ l.length ∧ l.length ≤ 1000) (h2 : 1 ≤ n ∧ n ≤ 1000) : (mnC 1 l.length (fX l) (fY l)).1 = 0 ↔ (mnC 1 n X Y).1 = 0 := by
  rw [mnC_ok, mnC_ok]
  constructor
  · rintro ⟨-, -, h⟩
    refine ⟨h2.1, h2.2, fun k hk => ?_⟩
    obtain ⟨i, hi, e⟩ := Hp.mem_getD ((hm _).2 (lsP_in hk))
    have := h i hi
    unfold fX fY at this
    rw [e] at this
    exact this
  · rintro ⟨-, -, h⟩
    refine ⟨h1.1, h1.2, fun k hk => ?_⟩
    obtain ⟨i, hi, e⟩ := lsP_mem.1 ((hm _).1 (Hp.getD_mem l k hk))
    unfold fX fY
    rw [e]
    exact h i hi
theorem mnC_12 {n : Nat} {X Y : Nat → Int} (h : 2 ≤ n) : (mnC 1 n X Y).1 = 0 ↔ (mnC 2 n X Y).1 = 0 := by
  rw [mnC_ok, mnC_ok]
  exact ⟨fun ⟨_, a, b⟩ => ⟨h, a, b⟩, fun ⟨_, a, b⟩ => ⟨by omega, a, b⟩⟩
/-- The hulls of both are the same. -/
theorem hull_same {l m : List Hp.Pt} {a b : List Hp.Pt} {ka kb : Nat} (h1 : Hp.HullOK l ka (fun i => a.getD i (0, 0))) (h2 : Hp.HullOK m kb (fun i => b.getD i (0, 0))) (e : ∀ p, p ∈ m ↔ p ∈ l) : ka = kb ∧ ∀ i, i < ka → fX a i = fX b i ∧ fY a i = fY b i := by
  obtain ⟨e1, e2⟩ := h1.uniq (h2.congr e)
  exact ⟨e1, fun i hi => ⟨congrArg Prod.fst (e2 i hi), congrArg Prod.snd (e2 i hi)⟩⟩
/-- The greatest square of the pairs q below p, p below m, or p = m and q below t. -/
structure MaxTo (a : List Hp.Pt) (m t x : Nat) : Prop where
  le : ∀ p q, q < p → (p < m ∨ (p = m ∧ q < t)) → sqN (fX a) (fY a) p q ≤ x
  at_ : x = 0 ∨ ∃ p q, q < p ∧ (p < m ∨ (p = m ∧ q < t)) ∧ x = sqN (fX a) (fY a) p q
theorem MaxTo.start (a : List Hp.Pt) : MaxTo a 0 0 0 := ⟨fun p q h1 h2 => by omega, .inl rfl⟩
theorem MaxTo.row {a : List Hp.Pt} {m x : Nat} (h : MaxTo a m m x) : MaxTo a (m + 1) 0 x where
  le p q h1 h2 := h.le p q h1 (by omega)
  at_ := h.at_.imp id fun ⟨p, q, h1, h2, h3⟩ => ⟨p, q, h1, by omega, h3⟩
theorem MaxTo.stay {a : List Hp.Pt} {m t x : Nat} (h : MaxTo a m t x) (hl : sqN (fX a) (fY a) m t ≤ x) : MaxTo a m (t + 1) x where
  le p q h1 h2 := by
    by_cases c : p = m ∧ q = t
    · rw [c.1, c.2]; exact hl
    · exact h.le p q h1 (by omega)
  at_ := h.at_.imp id fun ⟨p, q, h1, h2, h3⟩ => ⟨p, q, h1, by omega, h3⟩
theorem MaxTo.move {a : List Hp.Pt} {m t x : Nat} (h : MaxTo a m t x) (ht : t < m) (hl : x < sqN (fX a) (fY a) m t) : MaxTo a m (t + 1) (sqN (fX a) (fY a) m t) where
  le p q h1 h2 := by
    by_cases c : p = m ∧ q = t
    · rw [c.1, c.2]; exact Nat.le_refl _
    · have := h.le p q h1 (by omega); omega
  at_ := .inr ⟨m, t, ht, by omega, rfl⟩
theorem sqN_d2 (X Y : Nat → Int) (p q : Nat) : ((sqN X Y p q : Nat) : Int) = Hp.d2 (X p, Y p) (X q, Y q) := by rw [sqN_eq]; exact sqZ_d2 (X p, Y p) (X q, Y q)
theorem sqN_comm (X Y : Nat → Int) (p q : Nat) : sqN X Y p q = sqN X Y q p := by
  have h1 := sqN_d2 X Y p q
  have h2 := sqN_d2 X Y q p
  rw [Hp.d2_comm] at h1
  omega
/-- The farthest two points are corners. -/
theorem far_is {n ka i j x : Nat} {X Y : Nat → Int} {a : List Hp.Pt} (hok : Hp.HullOK (lsP n X Y) ka (fun i => a.getD i (0, 0))) (hw : Hp.BstA (sqF 1 X Y) n i j) (hm : MaxTo a ka 0 x) : x = sqN X Y i j := by
  have hl := hw.lt
  have up : ∀ p q, p < n → q < n → sqN X Y p q ≤ sqN X Y i j := fun p q hp hq => by
    by_cases c : p = q
    · rw [c, sq_self]; omega
    · have := bst_all hw hp hq c; omega
  have hsq : ∀ p q, p < ka → q < ka → ∃ u v, u < n ∧ v < n ∧ sqN (fX a) (fY a) p q = sqN X Y u v := fun p q hp hq => by
    obtain ⟨u, hu, eu⟩ := lsP_mem.1 (hok.mem p hp)
    obtain ⟨v, hv, ev⟩ := lsP_mem.1 (hok.mem q hq)
    refine ⟨u, v, hu, hv, ?_⟩
    have e1 := sqN_d2 (fX a) (fY a) p q
    have e2 := sqN_d2 X Y u v
    have f1 : (fX a p, fY a p) = (X u, Y u) := eu
    have f2 : (fX a q, fY a q) = (X v, Y v) := ev
    rw [f1, f2] at e1
    omega
  apply Nat.le_antisymm
  · rcases hm.at_ with h | ⟨p, q, h1, h2, h3⟩
    · omega
    · obtain ⟨u, v, hu, hv, e⟩ := hsq p q (by omega) (by omega)
      rw [h3, e]; exact up u v hu hv
  · obtain ⟨p, q, hp, hq, hd⟩ := hok.far (lsP_in (show i < n by omega)) (lsP_in hl.2)
    have e1 := sqN_d2 X Y i j
    have e2 := sqN_d2 (fX a) (fY a) p q
    have : (sqN X Y i j : Int) ≤ (sqN (fX a) (fY a) p q : Int) := by rw [e1, e2]; exact hd
    rcases Nat.lt_trichotomy p q with c | c | c
    · have h := hm.le q p c (by omega)
      rw [sqN_comm] at h; omega
    · rw [c, sq_self] at this; omega
    · have h := hm.le p q c (by omega); omega
theorem pts_set_other {w : World} {g c n b j : Nat} {X Y : Nat → Int} {x : Value} (h : Pts w (.slice (some ⟨g, 0, none⟩) n c) n X Y) (hb : g ≠ b) : Pts (w.setCell ⟨b, j, none⟩ x) (.slice (some ⟨g, 0, none⟩) n c) n X Y := by
  obtain ⟨ad, cap, B, off, e, h1, h2, h3, h4⟩ := h
  cases e
  refine ⟨_, c, B, off, rfl, h1, h2, h3, fun k hk => ?_⟩
  have e := h3 (by omega)
  cases e
  rw [World.cell?_setCell_other _ _ _ _ (by intro e; cases e; exact hb rfl), World.cell?_setCell_other _ _ _ _ (by intro e; cases e; exact hb rfl)]
  exact h4 k hk
theorem pts_own {w : World} {base N : Nat} {v : Value} {l : List Hp.Pt} (e : N = l.length) (h : w.ownsRow base 30 2 v N (rowL l)) : Pts w v N (fX l) (fY l) := by
  subst e; exact ownP_pts h
theorem cell_sh {w : World} {B off n k : Nat} {X Y : Nat → Int} (h : ∀ t, t < n → w.cell? ⟨B, off + t * 2, none⟩ = some (.int .i64 (X t)) ∧ w.cell? ⟨B, off + t * 2 + 1, none⟩ = some (.int .i64 (Y t))) : ∀ t, t < n - k → w.cell? ⟨B, off + k * 2 + t * 2, none⟩ = some (.int .i64 (shF X k t)) ∧ w.cell? ⟨B, off + k * 2 + t * 2 + 1, none⟩ = some (.int .i64 (shF Y k t)) := fun t ht => by
  have := h (k + t) (by omega)
  rw [show off + (k + t) * 2 = off + k * 2 + t * 2 by omega] at this
  exact this
set_option maxHeartbeats 2000000 in
set_option maxRecDepth 100000 in
/-- More than a hundred, or fewer than two. -/
theorem turns_no {n cap : Nat} {a : Option Addr} (i : Int) (W : World) (hE : ErrT W) (h : 100 < n ∨ n < 2) : Calls Tryd.prog 4 #[.slice a n cap, .int .i64 i] W fun e w' => e = .returned (.bool true) ∧ Gr W w' := by
  have HAW := Lib.hid (fun w (g : Gr W w) => p21_awake w (errT_gr hE g))
  by_cases c : 100 < n
  · have hb : decide (n ≤ 100) = false := decide_eq_false (by omega)
    have HS := Lib.hid (fun w => h_small a n cap false hb.symm w)
    clear hE h hb c
    go_enter Tryd.func4, Tryd.ntmps4
    go_wp2_with fail
    go_at_call 7
    refine ((HS.out _)).mono ?_
    rintro e w1 ⟨rfl, hw1⟩
    have gw1 : Gr W w1 := Gr.trans (by go_grown) hw1
    clear hw1
    go_wp2_with fail
    go_at_call 8
    refine ((HAW.out _ gw1)).mono ?_
    rintro e w2 ⟨rfl, hw2⟩
    have gw2 : Gr W w2 := Gr.trans (by have gg := gw1; have gs := gg.size; go_grown) hw2
    clear hw2 gw1
    go_wp2_with fail
    go_ret
    exact ⟨rfl, gw2⟩
  · have hb : decide (n ≤ 100) = true := decide_eq_true (by omega)
    have HS := Lib.hid (fun w => h_small a n cap true hb.symm w)
    have t1 : decide ((n : Int) < 2) = true := decide_eq_true (by omega)
    have t2 : (n : Int) < 2 := by omega
    clear hE h hb c
    go_enter Tryd.func4, Tryd.ntmps4
    go_wp2_with fail
    go_at_call 7
    refine ((HS.out _)).mono ?_
    rintro e w1 ⟨rfl, hw1⟩
    have gw1 : Gr W w1 := Gr.trans (by go_grown) hw1
    clear hw1
    go_wp2_with fail
    go_at_call 8
    refine ((HAW.out _ gw1)).mono ?_
    rintro e w2 ⟨rfl, hw2⟩
    have gw2 : Gr W w2 := Gr.trans (by have gg := gw1; have gs := gg.size; go_grown) hw2
    clear hw2 gw1
    go_wp2_with fail
    go_ret
    exact ⟨rfl, gw2⟩
set_option maxHeartbeats 20000000 in
set_option maxRecDepth 100000 in
theorem turns_err {n : Nat} {X Y : Nat → Int} {v : Value} (zi : Int) (W : World) (hE : ErrT W) (h : Pts W v n X Y) (h1 : n ≤ 100) (h2 : 2 ≤ n) (h0 : (mnC 1 n X Y).1 ≠ 0)
    (hi : -9223372036854775808 ≤ zi ∧ zi ≤ 9223372036854775807) : Calls Tryd.prog 4 #[v, .int .i64 zi] W fun e w' => e = .returned (.bool true) ∧ Gr W w' := by
  obtain ⟨i0, hi0, hz0, hz1, hz2⟩ := info_parts (P := Tryd.prog) (e := 30) (z := zP) (size := 2) (bytes := 16) (by kernel_rfl)
  have HI := Lib.hid (And.intro hi0 (And.intro hz0 (And.intro hz1 hz2)))
  have HAW := Lib.hid (fun w (g : Gr W w) => p21_awake w (errT_gr hE g))
  have HHL := Lib.hid (fun w (g : Gr W w) => hull_no w (pts_gr h g) h0)
  obtain ⟨k, ei⟩ : ∃ i : Nat, zi % (n : Int) = i := ⟨(zi % (n : Int)).toNat, (Int.toNat_of_nonneg (Int.emod_nonneg _ (by omega))).symm⟩
  have hkn : k < n := by have := Int.emod_lt_of_pos zi (show (0 : Int) < n by omega); omega
  have R1 := fun w => h_Round zi hi.1 hi.2 n (by omega) (by omega) w
  rw [ei] at R1
  have HR1 := Lib.hid R1
  have H00 := Lib.hid h0
  obtain ⟨ad, cap, B, off, rfl, k1, k2, k3, k4⟩ := h
  obtain rfl := k3 (by omega)
  have HX := Lib.hid k4
  have HXK := Lib.hid (cell_sh (k := k) k4)
  have zB := World.block_lt_of_cell? _ _ (k4 0 (by omega)).1
  have HS := Lib.hid (fun w => h_small (some ⟨B, off, none⟩) n cap true (decide_eq_true h1).symm w)
  have t1 : decide ((n : Int) < 2) = false := decide_eq_false (by omega)
  have t2 : ¬ (n : Int) < 2 := by omega
  have hni : (n : Int) ≤ 100 := by omega
  have u1 : (k : Int) < (n : Int) := by omega
  have u2 : (k : Int) ≤ (n : Int) := by omega
  have u3 : (n : Int) ≤ (cap : Int) := by omega
  clear hE h0 hi0 hz0 hz1 hz2 ei R1 k3 k4 hi
  go_enter Tryd.func4, Tryd.ntmps4
  go_wp2_with fail
  go_at_call 7
  refine ((HS.out _)).mono ?_
  rintro e w1 ⟨rfl, hw1⟩
  have gw1 : Gr W w1 := Gr.trans (by go_grown) hw1
  clear hw1
  go_wp2_with fail
  go_at_call 14
  refine ((HR1.out _)).mono ?_
  rintro e w2 ⟨rfl, hw2⟩
  have gw2 : Gr W w2 := Gr.trans (by have gg := gw1; have gs := gg.size; go_grown) hw2
  clear hw2 gw1
  have GA := Lib.hid (show Gr W (w2.alloc (.cells #[] 30)) from Gr.trans gw2 ((Below.refl _ _).alloc (Nat.le_refl _) _))
  have s2 := gw2.size
  go_wp2_with (at_builtin; first
    | (refine wpList_append_own2 _ rfl (.tmp 35) (.tmp 38) 22 rfl w2.heap.size 30 i0 zP 2 16 Tryd.underlying22 HI.out.1 HI.out.2.1 HI.out.2.2.1 HI.out.2.2.2 rfl (by decide) _ 0 [] rfl (World.ownsRow_made w2 #[] 0 (Nat.le_refl _) (Nat.zero_le _) (by simp)) ⟨B, off + k * 2, none⟩ (n - k) (cap - k) (rowL (lsP (n - k) (shF X k) (shF Y k))) rfl (by rw [rowL_len, lsP_len]) (lsP_news fun t ht => ⟨cell_gr GA.out (HXK.out t ht).1, cell_gr GA.out (HXK.out t ht).2⟩) (rowL_one _) (by unfold maxLen; omega) (by omega) (by simp) ?_; intro v3 w3 o3 g3; simp only [Nat.zero_add, List.nil_append] at o3 ⊢; obtain ⟨g3', c3, rfl, hb3, -⟩ := row_form o3 (by omega); have G3 : Gr W w3 := g3.gr GA.out (fun k hk => by cases hk; exact s2); have O3 := Lib.hid o3; clear o3 g3)
    | (refine wpList_append_own2 _ rfl (.tmp 39) (.tmp 40) 22 rfl w2.heap.size 30 i0 zP 2 16 Tryd.underlying22 HI.out.1 HI.out.2.1 HI.out.2.2.1 HI.out.2.2.2 rfl (by decide) (.slice (some ⟨g3', 0, none⟩) (n - k) c3) (n - k) (rowL (lsP (n - k) (shF X k) (shF Y k))) rfl O3.out ⟨B, off, none⟩ n cap (rowL (lsP n X Y)) rfl (by rw [rowL_len, lsP_len]) (lsP_news fun t ht => ⟨cell_gr G3 (HX.out t ht).1, cell_gr G3 (HX.out t ht).2⟩) (rowL_one _) (by unfold maxLen; omega) (by omega) (by have h := World.ownsRow.lt O3.out _ rfl; omega) ?_; intro v4 w4 o4 g4; obtain ⟨g4', c4, rfl, hb4, -⟩ := row_form o4 (by omega); have gw4 : Gr W w4 := g4.gr G3 (fun k hk => by cases hk; exact Nat.le_trans s2 hb3); have O4 := Lib.hid o4; clear o4 g4))
  have hL := turnL_len n k X Y
  obtain ⟨N, eN⟩ : ∃ N, N = n - k + n := ⟨_, rfl⟩
  rw [← eN] at hL ⊢
  have o4 := O4.out
  rw [← eN, ← rowL_app] at o4
  have hP := pts_own (l := turnL n k X Y) hL.symm o4
  have HP := Lib.hid hP
  have hN : N ≤ 1000 := by omega
  have hN1 : 1 ≤ N := by omega
  have HMN := Lib.hid (mnC_list (fun p => turnL_mem (n := n) (k := k) (X := X) (Y := Y)) (by rw [hL]; exact ⟨hN1, hN⟩) (show 1 ≤ n ∧ n ≤ 1000 by omega))
  have HLL := Lib.hid hL
  clear hP o4 O4 O3 hL eN GA HXK G3
  go_at_call 9
  (with_reducible refine (HHL.out _ gw4).mono ?_)
  rintro e w5 ⟨B1, rfl, hF, g5⟩
  have gw5 : Gr W w5 := Gr.trans gw4 g5
  have hm0 : (mnC 1 N (fX (turnL n k X Y)) (fY (turnL n k X Y))).1 ≠ 0 := fun e => H00.out (HMN.out.1 (by rw [HLL.out]; exact e))
  have HHM := Lib.hid (hull_no w5 (pts_gr HP.out g5) hm0)
  clear g5 gw4 hF hm0
  go_wp2_with fail
  go_at_call 9
  (with_reducible refine HHM.out.mono ?_)
  rintro e w6 ⟨B2, rfl, hF, g6⟩
  have gw6 : Gr W w6 := Gr.trans gw5 g6
  clear g6 gw5 hF
  go_wp2_with fail
  go_at_call 8
  (with_reducible refine (HAW.out _ gw6).mono ?_)
  rintro e w7 ⟨rfl, g7⟩
  go_wp2_with fail
  go_ret
  exact ⟨rfl, Gr.trans gw6 g7⟩
end Go.Proofs.YtogflfepkddbhaaDoor
