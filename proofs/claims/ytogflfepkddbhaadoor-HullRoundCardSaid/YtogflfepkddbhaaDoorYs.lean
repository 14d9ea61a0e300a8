/- HullClose: no two points are closer than the closest two, nor farther than the farthest two -/
import Derived.Test.YtogflfepkddbhaaDoorYr
import Derived.Test.YtogflfepkddbhaaDoorOg
namespace Go.Proofs.YtogflfepkddbhaaDoor
set_option linter.unusedVariables false
set_option linter.unusedSimpArgs false
open Go.ChangeShapes Go.WideShapes Go.ChangeAt Go.RowKit

/-- A point more behind. -/
def mF (n : Nat) (X : Nat → Int) (i : Nat) (k : Nat) : Int := if k < n then X k else X i
theorem rowL_lsP_succ (n : Nat) (X Y : Nat → Int) : rowL (lsP (n + 1) X Y) = rowL (lsP n X Y) ++ [.int .i64 (X n), .int .i64 (Y n)] := by
  have : lsP (n + 1) X Y = lsP n X Y ++ [(X n, Y n)] := by unfold lsP; rw [List.range_succ, List.map_append]; rfl
  rw [this, rowL_app]; rfl
theorem lsP_congr {n : Nat} {X Y P Q : Nat → Int} (h : ∀ k, k < n → X k = P k ∧ Y k = Q k) : lsP n X Y = lsP n P Q := by
  unfold lsP
  apply List.map_congr_left
  intro k hk
  rw [(h k (List.mem_range.1 hk)).1, (h k (List.mem_range.1 hk)).2]
theorem pts_fX {w : World} {v : Value} {n : Nat} {X Y : Nat → Int} (h : Pts w v n (fX (lsP n X Y)) (fY (lsP n X Y))) : Pts w v n X Y := by
  obtain ⟨ad, cap, B, off, h1, h2, h3, h4, h5⟩ := h
  refine ⟨ad, cap, B, off, h1, h2, h3, h4, fun k hk => ?_⟩
  have := h5 k hk
  unfold fX fY at this
  rwa [lsP_at hk] at this
theorem ownP_X {w : World} {base n : Nat} {v : Value} {X Y : Nat → Int} (h : OwnP w base v (lsP n X Y)) : Pts w v n X Y := pts_fX (pts_len (lsP_len n X Y).symm (ownP_pts h))
/-- The least of squares: no pair is less; the greatest: no pair is more; either way round. -/
theorem bst_all {s : Int} {n i j : Nat} {X Y : Nat → Int} (h : Hp.BstA (sqF s X Y) n i j) {p q : Nat} (hp : p < n) (hq : q < n) (hpq : p ≠ q) : s * (sqN X Y p q : Int) ≤ s * (sqN X Y i j : Int) := by
  have hs : ∀ a b, sqN X Y a b = sqN X Y b a := fun a b => by
    have : sqZ (X a) (Y a) (X b) (Y b) = sqZ (X b) (Y b) (X a) (Y a) := by unfold sqZ; grind
    unfold sqN; rw [this]
  have key : ∀ p q, p < q → q < n → s * (sqN X Y p q : Int) ≤ s * (sqN X Y i j : Int) := fun p q h1 h2 => by
    have := h.le p q h1 h2
    unfold sqF at this
    rwa [← sqN_eq, ← sqN_eq] at this
  rcases Nat.lt_or_gt_of_ne hpq with h1 | h1
  · exact key p q h1 hq
  · rw [hs]; exact key q p h1 hp
theorem sq_self (X Y : Nat → Int) (p : Nat) : sqN X Y p p = 0 := by
  have : sqZ (X p) (Y p) (X p) (Y p) = 0 := by unfold sqZ; grind
  unfold sqN; rw [this]; rfl
theorem sq_0 (X Y : Nat → Int) {p q : Nat} (h1 : X p = X q) (h2 : Y p = Y q) : sqN X Y p q = 0 := by
  have : sqZ (X p) (Y p) (X q) (Y q) = 0 := by unfold sqZ; rw [h1, h2]; grind
  unfold sqN; rw [this]; rfl
theorem sqN_congr {X Y P Q : Nat → Int} {p q : Nat} (h1 : X p = P p ∧ Y p = Q p) (h2 : X q = P q ∧ Y q = Q q) : sqN X Y p q = sqN P Q p q := by
  unfold sqN; rw [h1.1, h1.2, h2.1, h2.2]

/-- What is said of the values of the last region's operations. -/
def cV (B0 n : Nat) (X Y : Nat → Int) (i : Nat) (l : Value) (pa : Value) (A : Nat × Nat) : Nat → (Nat → Value) → World → Prop
  | 0, us, w => ∃ h, us 0 = .slice (some ⟨h, 0, none⟩) 0 0 ∧ w.ownsRow B0 30 2 (us 0) 0 []
  | 1, us, _ => us 1 = l
  | 2, us, w => ∃ g c, us 2 = .slice (some ⟨g, 0, none⟩) n c ∧ OwnP w B0 (us 2) (lsP n X Y)
  | 3, us, _ => us 3 = l
  | 4, us, _ => us 4 = .int .i64 i
  | 5, us, _ => us 5 = pa
  | 6, us, _ => us 6 = .agg #[.int .i64 (X i), .int .i64 (Y i)]
  | 7, us, w => ∃ p, us 7 = .slice (some ⟨p, 0, none⟩) 1 1 ∧ B0 ≤ p ∧ w.heap[p]? = some (Obj.cells #[.int .i64 (X i), .int .i64 (Y i)] 30 (0, 0))
  | 8, us, w => ∃ g c, us 8 = .slice (some ⟨g, 0, none⟩) (n + 1) c ∧ Pts w (us 8) (n + 1) (mF n X i) (mF n Y i)
  | 9, us, _ => us 9 = .tuple #[.int .i64 A.1, .int .i64 A.2, .agg #[.int .u64 0, .int .u64 (sqN (mF n X i) (mF n Y i) A.1 A.2), .int .u64 1], .nilIface] ∧ Hp.BstA (sqF (-1) (mF n X i) (mF n Y i)) (n + 1) A.1 A.2
  | 10, us, _ => us 10 = .tuple #[.int .i64 A.1, .int .i64 A.2, .agg #[.int .u64 0, .int .u64 (sqN (mF n X i) (mF n Y i) A.1 A.2), .int .u64 1], .nilIface]
  | 11, us, _ => us 11 = .int .i64 A.1
  | 12, us, _ => us 12 = .int .i64 A.2
  | 13, us, _ => us 13 = .agg #[.int .u64 0, .int .u64 (sqN (mF n X i) (mF n Y i) A.1 A.2), .int .u64 1]
  | 14, us, _ => us 14 = .nilIface
  | 15, us, w => ∃ p, us 15 = .pointer (some ⟨p, 0, none⟩) ∧ B0 ≤ p ∧ w.heap[p]? = some (Obj.cells #[.int .u64 0, .int .u64 0, .int .u64 0] 37 (0, 0))
  | 16, us, _ => us 16 = .int .i64 A.1
  | 17, us, _ => us 17 = .int .i64 A.2
  | 18, us, w => ∃ p, us 15 = .pointer (some ⟨p, 0, none⟩) ∧ B0 ≤ p ∧ w.heap[p]? = some (Obj.cells #[.int .u64 0, .int .u64 (sqN (mF n X i) (mF n Y i) A.1 A.2), .int .u64 1] 37 (0, 0))
  | 19, us, _ => us 19 = .nilIface
  | _, _, _ => True
def cT (w0 : World) (i : Nat) (x y : World) : Prop :=
  if i = 8 then (x.heap.size ≤ y.heap.size ∧ (Gr w0 x → Gr w0 y) ∧ ∀ (k : Nat) (cur : Array Value) (t : TypeId), x.heap[k]? = some (Obj.cells cur t (0, 0)) → t ≠ 30 → y.heap[k]? = x.heap[k]?)
  else if i = 18 then (x.heap.size ≤ y.heap.size ∧ (Gr w0 x → Gr w0 y))
  else if i = 2 then (x.heap.size ≤ y.heap.size ∧ (Gr w0 x → Gr w0 y) ∧ ∀ (k : Nat) (cur : Array Value) (t : TypeId), x.heap[k]? = some (Obj.cells cur t (0, 0)) → cur.size ≠ 0 → y.heap[k]? = x.heap[k]?)
  else Gr x y
def cS (w0 x y : World) : Prop := x.heap.size ≤ y.heap.size ∧ (Gr w0 x → Gr w0 y)
def cK (i : Nat) : Bool := i == 9 || decide (16 ≤ i)
def cU : Nat → List Nat
  | 2 => [0, 1] | 5 => [3, 4] | 6 => [5] | 7 => [6] | 8 => [2, 7] | 9 => [8] | 10 => [9] | 11 => [10] | 12 => [10] | 13 => [10] | 14 => [10] | 16 => [11] | 17 => [12] | 18 => [13, 15] | 19 => [14] | _ => []
theorem upd_ne {us : Nat → Value} {i j : Nat} {v : Value} (h : j ≠ i) : Og.upd us i v j = us j := by unfold Og.upd; rw [if_neg h]
theorem upd_eq {us : Nat → Value} {i : Nat} {v : Value} : Og.upd us i v i = v := by unfold Og.upd; rw [if_pos rfl]
/-- All but 18 speaks of its own value alone. -/
theorem cV_upd {B0 n : Nat} {X Y : Nat → Int} {i : Nat} {l pa : Value} {A : Nat × Nat} {w : World} {us : Nat → Value} {v : Value} {q : Nat} : ∀ j, j ≠ q → (j = 18 → q ≠ 15) → cV B0 n X Y i l pa A j us w → cV B0 n X Y i l pa A j (Og.upd us q v) w
  | 0, h, _, k => by simp only [cV, upd_ne h] at k ⊢; exact k
  | 1, h, _, k => by simp only [cV, upd_ne h] at k ⊢; exact k
  | 2, h, _, k => by simp only [cV, upd_ne h] at k ⊢; exact k
  | 3, h, _, k => by simp only [cV, upd_ne h] at k ⊢; exact k
  | 4, h, _, k => by simp only [cV, upd_ne h] at k ⊢; exact k
  | 5, h, _, k => by simp only [cV, upd_ne h] at k ⊢; exact k
  | 6, h, _, k => by simp only [cV, upd_ne h] at k ⊢; exact k
  | 7, h, _, k => by simp only [cV, upd_ne h] at k ⊢; exact k
  | 8, h, _, k => by simp only [cV, upd_ne h] at k ⊢; exact k
  | 9, h, _, k => by simp only [cV, upd_ne h] at k ⊢; exact k
  | 10, h, _, k => by simp only [cV, upd_ne h] at k ⊢; exact k
  | 11, h, _, k => by simp only [cV, upd_ne h] at k ⊢; exact k
  | 12, h, _, k => by simp only [cV, upd_ne h] at k ⊢; exact k
  | 13, h, _, k => by simp only [cV, upd_ne h] at k ⊢; exact k
  | 14, h, _, k => by simp only [cV, upd_ne h] at k ⊢; exact k
  | 15, h, _, k => by simp only [cV, upd_ne h] at k ⊢; exact k
  | 16, h, _, k => by simp only [cV, upd_ne h] at k ⊢; exact k
  | 17, h, _, k => by simp only [cV, upd_ne h] at k ⊢; exact k
  | 18, h, h2, k => by simp only [cV, upd_ne (fun e => h2 rfl e.symm)] at k ⊢; exact k
  | 19, h, _, k => by simp only [cV, upd_ne h] at k ⊢; exact k
  | j + 20, h, _, k => trivial
theorem cV_gr {B0 n : Nat} {X Y : Nat → Int} {i : Nat} {l pa : Value} {A : Nat × Nat} {a b : World} {us : Nat → Value} (g : Gr a b) : ∀ j, cV B0 n X Y i l pa A j us a → cV B0 n X Y i l pa A j us b
  | 0, ⟨h, e, o⟩ => ⟨h, e, rowOwn_gr o g⟩
  | 1, h => h
  | 2, ⟨h, c, e, o⟩ => ⟨h, c, e, ownP_gr o g⟩
  | 3, h => h
  | 4, h => h
  | 5, h => h
  | 6, h => h
  | 7, ⟨p, e, h, c⟩ => ⟨p, e, h, Hm.heap_gr g c⟩
  | 8, ⟨h, c, e, o⟩ => ⟨h, c, e, pts_gr o g⟩
  | 9, h => h
  | 10, h => h
  | 11, h => h
  | 12, h => h
  | 13, h => h
  | 14, h => h
  | 15, ⟨p, e, h, c⟩ => ⟨p, e, h, Hm.heap_gr g c⟩
  | 16, h => h
  | 17, h => h
  | 18, ⟨p, e, h, c⟩ => ⟨p, e, h, Hm.heap_gr g c⟩
  | 19, h => h
  | j + 20, h => trivial
/-- What says nothing of the world. -/
theorem cV_any {B0 n : Nat} {X Y : Nat → Int} {i : Nat} {l pa : Value} {A : Nat × Nat} {a b : World} {us : Nat → Value} : ∀ j, j ≠ 0 → j ≠ 2 → j ≠ 7 → j ≠ 8 → j ≠ 15 → j ≠ 18 → cV B0 n X Y i l pa A j us a → cV B0 n X Y i l pa A j us b
  | 0, h, _, _, _, _, _, _ => absurd rfl h
  | 1, _, _, _, _, _, _, h => h
  | 2, _, h, _, _, _, _, _ => absurd rfl h
  | 3, _, _, _, _, _, _, h => h
  | 4, _, _, _, _, _, _, h => h
  | 5, _, _, _, _, _, _, h => h
  | 6, _, _, _, _, _, _, h => h
  | 7, _, _, h, _, _, _, _ => absurd rfl h
  | 8, _, _, _, h, _, _, _ => absurd rfl h
  | 9, _, _, _, _, _, _, h => h
  | 10, _, _, _, _, _, _, h => h
  | 11, _, _, _, _, _, _, h => h
  | 12, _, _, _, _, _, _, h => h
  | 13, _, _, _, _, _, _, h => h
  | 14, _, _, _, _, _, _, h => h
  | 15, _, _, _, _, h, _, _ => absurd rfl h
  | 16, _, _, _, _, _, _, h => h
  | 17, _, _, _, _, _, _, h => h
  | 18, _, _, _, _, _, h, _ => absurd rfl h
  | 19, _, _, _, _, _, _, h => h
  | j + 20, _, _, _, _, _, _, h => trivial
theorem cS_tr {w0 : World} : ∀ a b c, cS w0 a b → cS w0 b c → cS w0 a c := fun a b c h1 h2 => ⟨Nat.le_trans h1.1 h2.1, fun h => h2.2 (h1.2 h)⟩
theorem cT_S {w0 : World} {i : Nat} {a b : World} (h : cT w0 i a b) : cS w0 a b := by
  unfold cT at h
  split at h
  · exact ⟨h.1, h.2.1⟩
  · split at h
    · exact h
    · split at h
      · exact ⟨h.1, h.2.1⟩
      · exact ⟨h.size, fun k => Gr.trans k h⟩
theorem cT_gr {w0 : World} {i : Nat} {a b : World} (h : (i ≠ 8 ∧ i ≠ 18 ∧ i ≠ 2)) (_ : True) (g : Gr a b) : cT w0 i a b := by
  unfold cT; rw [if_neg h.1, if_neg h.2.1, if_neg h.2.2]; exact g
theorem c_T18 {w0 a b : World} (h1 : a.heap.size ≤ b.heap.size) (h2 : Gr w0 a → Gr w0 b) : cT w0 18 a b := by
  unfold cT; rw [if_neg (by decide), if_pos rfl]; exact ⟨h1, h2⟩
theorem own_heap {w : World} {base g n c : Nat} {e : TypeId} {xs : List Value} (h : w.ownsRow base e 2 (.slice (some ⟨g, 0, none⟩) n c) n xs) : base ≤ g ∧ ∃ cur : Array Value, w.heap[g]? = some (Obj.cells cur e (0, 0)) ∧ cur.size = c * 2 := by
  rcases h.2 with ⟨h', _⟩ | ⟨g', cap', cur, h', hb, hg, hnc, hcm, hcs, htake⟩
  · cases h'
  · cases h'; exact ⟨hb, cur, hg, hcs⟩
theorem c_T2 {w0 w w' : World} {h : Nat} {u : Value} (o : w.ownsRow w0.heap.size 30 2 (.slice (some ⟨h, 0, none⟩) 0 0) 0 []) (g : Grown w w' (.slice (some ⟨h, 0, none⟩) 0 0) u) : cT w0 2 w w' := by
  obtain ⟨hb, cur0, h0, hs0⟩ := own_heap o
  unfold cT
  rw [if_neg (by decide), if_neg (by decide), if_pos rfl]
  refine ⟨g.1.size, fun k => g.gr k (fun j hj => by cases hj; exact hb), fun k cur t hk hc => ?_⟩
  rw [g.block hk (fun j hj e => by
    cases hj
    subst e
    rw [h0] at hk
    cases hk
    exact hc (by simpa using hs0)), hk]
theorem c_T8 {w0 w w' : World} {h n c : Nat} {u : Value} {xs : List Value} (o : w.ownsRow w0.heap.size 30 2 (.slice (some ⟨h, 0, none⟩) n c) n xs) (g : Grown w w' (.slice (some ⟨h, 0, none⟩) n c) u) : cT w0 8 w w' := by
  obtain ⟨hb, cur0, h0, hs0⟩ := own_heap o
  unfold cT
  rw [if_pos rfl]
  refine ⟨g.1.size, fun k => g.gr k (fun j hj => by cases hj; exact hb), fun k cur t hk hc => ?_⟩
  rw [g.block hk (fun j hj e => by
    cases hj
    subst e
    rw [h0] at hk
    cases hk
    exact hc rfl), hk]
theorem news2 {w : World} {p : Nat} {a b : Value} {t : TypeId} (h : w.heap[p]? = some (Obj.cells #[a, b] t (0, 0))) : ∀ j u, [a, b][j]? = some u → w.cell? ((⟨p, 0, none⟩ : Addr).add j) = some u := by
  intro j u hu
  rw [addr_add, Nat.zero_add, Hm.cell_of_heap h j]
  simpa using hu
theorem pts_mF {w : World} {base n i : Nat} {v : Value} {X Y : Nat → Int} (h : w.ownsRow base 30 2 v (n + 1) (rowL (lsP n X Y) ++ [.int .i64 (X i), .int .i64 (Y i)])) : Pts w v (n + 1) (mF n X i) (mF n Y i) := by
  refine ownP_X (base := base) ?_
  unfold OwnP
  rw [lsP_len, rowL_lsP_succ]
  have e : lsP n (mF n X i) (mF n Y i) = lsP n X Y := lsP_congr fun k hk => by unfold mF; rw [if_pos hk, if_pos hk]; exact ⟨rfl, rfl⟩
  rw [e]
  have e2 : mF n X i n = X i := by unfold mF; rw [if_neg (Nat.lt_irrefl _)]
  have e3 : mF n Y i n = Y i := by unfold mF; rw [if_neg (Nat.lt_irrefl _)]
  rw [e2, e3]; exact h
theorem mF_ok {n i : Nat} {X Y : Nat → Int} (h0 : (mnC 2 n X Y).1 = 0) (hi : i < n) (hn : n ≤ 100) : (mnC 2 (n + 1) (mF n X i) (mF n Y i)).1 = 0 := by
  obtain ⟨a, -, c⟩ := mnC_ok.1 h0
  refine mnC_ok.2 ⟨by omega, by omega, fun k hk => ?_⟩
  unfold mF
  by_cases e : k < n
  · rw [if_pos e, if_pos e]; exact c k e
  · rw [if_neg e, if_neg e]; exact c i hi
theorem close_zero {n i : Nat} {X Y : Nat → Int} {A : Nat × Nat} (hi : i < n) (h : Hp.BstA (sqF (-1) (mF n X i) (mF n Y i)) (n + 1) A.1 A.2) : sqN (mF n X i) (mF n Y i) A.1 A.2 = 0 := by
  have e : sqN (mF n X i) (mF n Y i) i n = 0 := sq_0 _ _ (by unfold mF; rw [if_pos hi, if_neg (Nat.lt_irrefl _)]) (by unfold mF; rw [if_pos hi, if_neg (Nat.lt_irrefl _)])
  have := bst_all h (p := i) (q := n) (by omega) (by omega) (by omega)
  rw [e] at this
  omega
/-- The values that are wanted stay. -/
theorem c_st {ops : Array Oper} {w0 : World} {B0 n : Nat} {X Y : Nat → Int} {i : Nat} {l pa : Value} {A : Nat × Nat} (hk : ([0, 2, 7, 18].all fun j => Og.needB ops 20 cU cK 8 j == false) = true) (hk2 : ([0, 2, 7, 8, 15].all fun j => Og.needB ops 20 cU cK 18 j == false) = true) (hk3 : Og.needB ops 20 cU cK 15 18 = false) (hk4 : ([0, 8, 18].all fun j => Og.needB ops 20 cU cK 2 j == false) = true) :
    ∀ q j us v w w', q < 20 → j < 20 → Og.needB ops 20 cU cK q j = true → cS w0 w0 w → cV B0 n X Y i l pa A j us w → cT w0 q w w' → cV B0 n X Y i l pa A j (Og.upd us q v) w' := by
  intro q j us v w w' hq hj hn hS hV hT
  have hjq : j ≠ q := fun e => by subst e; unfold Og.needB at hn; simp at hn
  have no8 : ∀ j', j' ∈ [0, 2, 7, 18] → Og.needB ops 20 cU cK 8 j' = false := fun j' h => by simpa using List.all_eq_true.1 hk j' h
  have no18 : ∀ j', j' ∈ [0, 2, 7, 8, 15] → Og.needB ops 20 cU cK 18 j' = false := fun j' h => by simpa using List.all_eq_true.1 hk2 j' h
  have no2 : ∀ j', j' ∈ [0, 8, 18] → Og.needB ops 20 cU cK 2 j' = false := fun j' h => by simpa using List.all_eq_true.1 hk4 j' h
  refine cV_upd j hjq (fun e1 e2 => ?_) ?_
  · subst e1 e2; rw [hk3] at hn; cases hn
  by_cases c8 : q = 8
  · subst c8
    have nj : ∀ j', j' ∈ [0, 2, 7, 18] → j ≠ j' := fun j' h e => by subst e; rw [no8 j h] at hn; cases hn
    by_cases c15 : j = 15
    · subst c15
      unfold cT at hT
      rw [if_pos rfl] at hT
      obtain ⟨p, e, hb, hh⟩ := hV
      exact ⟨p, e, hb, (hT.2.2 p _ _ hh (by decide)).trans hh⟩
    · exact cV_any j (nj 0 (by simp)) (nj 2 (by simp)) (nj 7 (by simp)) hjq c15 (nj 18 (by simp)) hV
  by_cases c18 : q = 18
  · subst c18
    have nj : ∀ j', j' ∈ [0, 2, 7, 8, 15] → j ≠ j' := fun j' h e => by subst e; rw [no18 j h] at hn; cases hn
    exact cV_any j (nj 0 (by simp)) (nj 2 (by simp)) (nj 7 (by simp)) (nj 8 (by simp)) (nj 15 (by simp)) hjq hV
  by_cases c2 : q = 2
  · subst c2
    have nj : ∀ j', j' ∈ [0, 8, 18] → j ≠ j' := fun j' h e => by subst e; rw [no2 j h] at hn; cases hn
    unfold cT at hT
    rw [if_neg (by decide), if_neg (by decide), if_pos rfl] at hT
    by_cases c7 : j = 7
    · subst c7
      obtain ⟨p, e, hb, hh⟩ := hV
      exact ⟨p, e, hb, (hT.2.2 p _ _ hh (by simp)).trans hh⟩
    by_cases c15 : j = 15
    · subst c15
      obtain ⟨p, e, hb, hh⟩ := hV
      exact ⟨p, e, hb, (hT.2.2 p _ _ hh (by simp)).trans hh⟩
    exact cV_any j (nj 0 (by simp)) hjq c7 (nj 8 (by simp)) c15 (nj 18 (by simp)) hV
  · unfold cT at hT
    rw [if_neg c8, if_neg c18, if_neg c2] at hT
    exact cV_gr hT j hV
set_option maxHeartbeats 2000000 in
set_option maxRecDepth 100000 in
/-- More than a hundred, or fewer than two. -/
theorem close_no {n cap : Nat} {a : Option Addr} (i j : Int) (W : World) (hE : ErrT W) (h : 100 < n ∨ n < 2) : Calls Tryd.prog 6 #[.slice a n cap, .int .i64 i, .int .i64 j] W fun e w' => e = .returned (.bool true) ∧ Gr W w' := by
  have HAW := Lib.hid (fun w (g : Gr W w) => p21_awake w (errT_gr hE g))
  by_cases c : 100 < n
  · have hb : decide (n ≤ 100) = false := decide_eq_false (by omega)
    have HS := Lib.hid (fun w => h_small a n cap false hb.symm w)
    clear hE h hb c
    go_enter Tryd.func6, Tryd.ntmps6
    go_wp2_with fail
    go_at_call 7
    refine ((HS.out _)).mono ?_
    rintro e w1 ⟨rfl, hw1⟩
    have gw1 : Gr W w1 := Gr.trans (by go_grown) hw1
    clear hw1
    go_wp2_with fail
    go_at_call 8
    refine ((HAW.out _ gw1)).mono ?_
    rintro e w2 ⟨rfl, hw2⟩
    have gw2 : Gr W w2 := Gr.trans (by have gg := gw1; have gs := gg.size; go_grown) hw2
    clear hw2 gw1
    go_wp2_with fail
    go_ret
    exact ⟨rfl, gw2⟩
  · have hb : decide (n ≤ 100) = true := decide_eq_true (by omega)
    have HS := Lib.hid (fun w => h_small a n cap true hb.symm w)
    have t1 : decide ((n : Int) < 2) = true := decide_eq_true (by omega)
    have t2 : (n : Int) < 2 := by omega
    clear hE h hb c
    go_enter Tryd.func6, Tryd.ntmps6
    go_wp2_with fail
    go_at_call 7
    refine ((HS.out _)).mono ?_
    rintro e w1 ⟨rfl, hw1⟩
    have gw1 : Gr W w1 := Gr.trans (by go_grown) hw1
    clear hw1
    go_wp2_with fail
    go_at_call 8
    refine ((HAW.out _ gw1)).mono ?_
    rintro e w2 ⟨rfl, hw2⟩
    have gw2 : Gr W w2 := Gr.trans (by have gg := gw1; have gs := gg.size; go_grown) hw2
    clear hw2 gw1
    go_wp2_with fail
    go_ret
    exact ⟨rfl, gw2⟩
set_option maxHeartbeats 4000000 in
set_option maxRecDepth 100000 in
/-- Some may not be. -/
theorem close_err {n : Nat} {X Y : Nat → Int} {v : Value} (i j : Int) (W : World) (hE : ErrT W) (h : Pts W v n X Y) (h1 : n ≤ 100) (h2 : 2 ≤ n) (h0 : (mnC 2 n X Y).1 ≠ 0) : Calls Tryd.prog 6 #[v, .int .i64 i, .int .i64 j] W fun e w' => e = .returned (.bool true) ∧ Gr W w' := by
  have HAW := Lib.hid (fun w (g : Gr W w) => p21_awake w (errT_gr hE g))
  have HCN := Lib.hid (fun w (g : Gr W w) => no_Closest w (pts_gr h g) h0)
  obtain ⟨ad, cap, B, off, rfl, -, -, -, -⟩ := h
  have HS := Lib.hid (fun w => h_small ad n cap true (decide_eq_true h1).symm w)
  have t1 : decide ((n : Int) < 2) = false := decide_eq_false (by omega)
  have t2 : ¬ (n : Int) < 2 := by omega
  clear hE h0
  go_enter Tryd.func6, Tryd.ntmps6
  go_wp2_with fail
  go_at_call 7
  refine ((HS.out _)).mono ?_
  rintro e w1 ⟨rfl, hw1⟩
  have gw1 : Gr W w1 := Gr.trans (by go_grown) hw1
  clear hw1
  go_wp2_with fail
  go_at_call 17
  (with_reducible refine (HCN.out _ gw1).mono ?_)
  rintro e w2 ⟨B1, rfl, hF, g2⟩
  have gw2 : Gr W w2 := Gr.trans gw1 g2
  clear g2 hF gw1
  go_wp2_with fail
  go_at_call 8
  refine ((HAW.out _ (by have gg := gw2; have gs := gg.size; go_grown))).mono ?_
  rintro e w3 ⟨rfl, hw3⟩
  have cw3_0_0 : w3.cell? ⟨w2.heap.size, 0, none⟩ = some (.int .u64 0) := cell_gr hw3 (by go_simp)
  have cw3_0_1 : w3.cell? ⟨w2.heap.size, 1, none⟩ = some (.int .u64 0) := cell_gr hw3 (by go_simp)
  have cw3_0_2 : w3.cell? ⟨w2.heap.size, 2, none⟩ = some (.int .u64 0) := cell_gr hw3 (by go_simp)
  have zw3_0 : w2.heap.size < w3.heap.size := World.block_lt_of_cell? _ _ cw3_0_0
  have gw3 : Gr W w3 := Gr.trans (by have gg := gw2; have gs := gg.size; go_grown) hw3
  clear hw3 gw2
  go_wp2_with fail
  go_ret
  exact ⟨rfl, gw3⟩
end Go.Proofs.YtogflfepkddbhaaDoor
