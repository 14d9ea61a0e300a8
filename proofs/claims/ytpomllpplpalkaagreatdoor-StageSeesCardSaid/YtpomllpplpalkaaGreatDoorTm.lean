/- the document's map: its row of items; place -/
import Derived.Test.YtpomllpplpalkaaGreatDoorTf
namespace Go.Proofs.YtpomllpplpalkaaGreatDoor
set_option linter.unusedVariables false
set_option linter.unusedSimpArgs false
open Go.ChangeShapes Go.WideShapes Go.ChangeAt Go.RowKit Go.Maps

theorem own_monoT {w : World} {base base' e size n : Nat} {v : Value} {xs : List Value} (h : w.ownsRow base e size v n xs) (hb : base' ≤ base) : w.ownsRow base' e size v n xs := by
  rcases h with ⟨h1, ⟨rfl, h2⟩ | ⟨g', cap, cur, rfl, hb', hg, hn', hc, hs, ht⟩⟩
  · exact ⟨h1, .inl ⟨rfl, h2⟩⟩
  · exact ⟨h1, .inr ⟨g', cap, cur, rfl, Nat.le_trans hb hb', hg, hn', hc, hs, ht⟩⟩
def itC (c : MChg) : List Value := [.int .i64 c.id, .int .i64 c.k, c.v]
def itCs : List MChg → List Value
  | [] => []
  | c :: L => itC c ++ itCs L
theorem itCs_app : ∀ (L L' : List MChg), itCs (L ++ L') = itCs L ++ itCs L'
  | [], _ => rfl
  | c :: L, L' => by show itC c ++ itCs (L ++ L') = (itC c ++ itCs L) ++ itCs L'; rw [itCs_app L L', List.append_assoc]
theorem itCs_one (c : MChg) : itCs [c] = itC c := by show itC c ++ [] = itC c; rw [List.append_nil]
theorem itCs_get : ∀ (L : List MChg) (i : Nat), i < L.length → (itCs L)[i * 3]? = some (.int .i64 (L.getD i MChg.nul).id) ∧ (itCs L)[i * 3 + 1]? = some (.int .i64 (L.getD i MChg.nul).k) ∧ (itCs L)[i * 3 + 2]? = some (L.getD i MChg.nul).v
  | [], i, h => absurd h (Nat.not_lt_zero _)
  | c :: L, 0, h => ⟨rfl, rfl, rfl⟩
  | c :: L, i + 1, h => by
    have ih := itCs_get L i (by simpa using h)
    rw [show (i + 1) * 3 = i * 3 + 1 + 1 + 1 by omega, show i * 3 + 1 + 1 + 1 + 1 = (i * 3 + 1) + 1 + 1 + 1 by omega, show i * 3 + 1 + 1 + 1 + 2 = (i * 3 + 2) + 1 + 1 + 1 by omega]
    exact ih
structure RRel (σ : Int → Option MO) (L : List MChg) : Prop where
  srt : L.Pairwise (fun a c => a.id < c.id)
  val : ∀ c, c ∈ L → i64R c.id ∧ σ c.id = some ⟨c.k, c.n, c.X, c.Y⟩
  all : ∀ z, i64R z → (σ z).isSome = true → ∃ c, c ∈ L ∧ c.id = z
theorem rRel_nil : RRel (fun _ => none) [] := ⟨List.Pairwise.nil, fun c h => (by cases h), fun z _ h => (by cases h)⟩
theorem getD_mem {L : List MChg} {i : Nat} (h : i < L.length) : L.getD i MChg.nul ∈ L := by
  rw [List.getD_eq_getElem?_getD, List.getElem?_eq_getElem h]
  exact List.getElem_mem h
theorem mem_getD {L : List MChg} {c : MChg} (h : c ∈ L) : ∃ i, i < L.length ∧ L.getD i MChg.nul = c := by
  obtain ⟨i, hi, e⟩ := List.getElem_of_mem h
  exact ⟨i, hi, by rw [List.getD_eq_getElem?_getD, List.getElem?_eq_getElem hi]; exact e⟩
theorem srt_get {L : List MChg} (h : L.Pairwise (fun a c => a.id < c.id)) {i j : Nat} (hij : i < j) (hj : j < L.length) : (L.getD i MChg.nul).id < (L.getD j MChg.nul).id := by
  rw [List.getD_eq_getElem?_getD, List.getD_eq_getElem?_getD, List.getElem?_eq_getElem hj, List.getElem?_eq_getElem (Nat.lt_trans hij hj)]
  exact List.pairwise_iff_getElem.1 h i j (Nat.lt_trans hij hj) hj hij
def PlaceR (L : List MChg) (z : Int) (p : Int) : Prop := (p = -1 ∧ ∀ i, i < L.length → (L.getD i MChg.nul).id ≠ z) ∨ ∃ i, i < L.length ∧ p = (i : Int) ∧ (L.getD i MChg.nul).id = z
theorem placeR_i {L : List MChg} {z p : Int} (hs : L.Pairwise (fun a c => a.id < c.id)) (h : PlaceR L z p) {i : Nat} (hi : i < L.length) : p = (i : Int) ↔ (L.getD i MChg.nul).id = z := by
  rcases h with ⟨rfl, h⟩ | ⟨j, hj, rfl, h⟩
  · exact ⟨fun e => absurd e (by omega), fun e => absurd e (h i hi)⟩
  · constructor
    · intro e
      obtain rfl : j = i := by omega
      exact h
    · intro e
      rcases Nat.lt_trichotomy i j with q | q | q
      · have := srt_get hs q hj; omega
      · rw [q]
      · have := srt_get hs q hi; omega
theorem placeR_ge {σ : Int → Option MO} {L : List MChg} {z p : Int} (hr : RRel σ L) (hz : i64R z) (h : PlaceR L z p) : decide (0 ≤ p) = (σ z).isSome ∧ (-1 ≤ p ∧ p < L.length) := by
  rcases h with ⟨rfl, h⟩ | ⟨j, hj, rfl, h⟩
  · refine ⟨?_, by omega⟩
    rw [decide_eq_false (by omega)]
    cases hs : (σ z).isSome with
    | false => rfl
    | true =>
      obtain ⟨c, hc, rfl⟩ := hr.all z hz hs
      obtain ⟨i, hi, rfl⟩ := mem_getD hc
      exact absurd rfl (h i hi)
  · refine ⟨?_, by omega⟩
    have := (hr.val _ (getD_mem hj)).2
    rw [h] at this
    rw [decide_eq_true (by omega), this]
    rfl
structure RmAt (P w : World) (base X : Nat) (σ : Int → Option MO) (L : List MChg) : Prop where
  row : ∃ sv, w.heap[X]? = some (.cells #[sv] 74 (0, 0)) ∧ w.ownsRow base 43 3 sv L.length (itCs L)
  rel : RRel σ L
  pts : ∀ c, c ∈ L → Pts P c.v c.n c.X c.Y
  gr : Gr P w
  hX : P.heap.size ≤ X
theorem rmAt_kx {Z : Nat → Prop} {P a b : World} {base X : Nat} {σ : Int → Option MO} {L : List MChg} (h : RmAt P a base X σ L) (K : Kx Z a b) (hZ : ∀ i, Z i → P.heap.size ≤ i ∧ NoTy a i 74 ∧ NoTy a i 43) : RmAt P b base X σ L := by
  obtain ⟨⟨sv, h1, h2⟩, h3, h4, h5, h6⟩ := h
  exact ⟨⟨sv, heap_kx K (fun hs => (hZ _ hs).2.1 _ _ h1) h1, rowOwn_kxS h2 K (fun k hk hs => by
    obtain ⟨-, cur, hc⟩ := own_tyC h2 hk
    exact (hZ k hs).2.2 _ _ hc)⟩, h3, h4, Kx.gr K h5 (fun i hi => (hZ i hi).1), h6⟩
theorem rmAt_gr {P a b : World} {base X : Nat} {σ : Int → Option MO} {L : List MChg} (h : RmAt P a base X σ L) (g : Gr a b) : RmAt P b base X σ L := rmAt_kx (Z := fun _ => False) h (Kx.of_gr g) (fun _ h => h.elim)
theorem rmAt_at {P w : World} {base X : Nat} {σ : Int → Option MO} {L : List MChg} (h : RmAt P w base X σ L) : ∃ ad cap D, w.cell? ⟨X, 0, none⟩ = some (.slice ad L.length cap) ∧ L.length ≤ cap ∧ ∀ i, i < L.length → ad = some ⟨D, 0, none⟩ ∧ w.cell? ⟨D, i * 3, none⟩ = some (.int .i64 (L.getD i MChg.nul).id) ∧ w.cell? ⟨D, i * 3 + 1, none⟩ = some (.int .i64 (L.getD i MChg.nul).k) ∧ w.cell? ⟨D, i * 3 + 2, none⟩ = some (L.getD i MChg.nul).v := by
  obtain ⟨⟨sv, h1, h2⟩, -, -, -, -⟩ := h
  have c0 := Hm.cell_of_heap h1 0
  rcases h2.2 with ⟨e, e2⟩ | ⟨g, cp, cur, e, hb, hg, hn', hc, hs, ht⟩
  · subst e
    have hl : L.length = 0 := by first | exact e2 | (have h := itCs_len L; rw [e2] at h; simp at h; rw [h]; rfl)
    rw [hl]
    exact ⟨none, 0, 0, c0, Nat.le_refl _, fun i hi => absurd hi (by omega)⟩
  · subst e
    refine ⟨_, cp, g, c0, hn', fun i hi => ?_⟩
    obtain ⟨a0, a1, a2⟩ := itCs_get L i hi
    refine ⟨rfl, ?_, ?_, ?_⟩
    · rw [h2.cellAt _ (by omega)]; exact a0
    · rw [h2.cellAt _ (by omega)]; exact a1
    · rw [h2.cellAt _ (by omega)]; exact a2
set_option maxHeartbeats 2000000 in
set_option maxRecDepth 100000 in
theorem rm_place {P W : World} {base X : Nat} {σ : Int → Option MO} {L : List MChg} {z : Int} (hL : L.length ≤ 1000000) (h : RmAt P W base X σ L) : Calls Tryz.prog 76 #[.pointer (some ⟨X, 0, none⟩), .int .i64 z] W fun e w' => ∃ p, e = .returned (.int .i64 p) ∧ PlaceR L z p ∧ Gr W w' := by
  obtain ⟨ad, cap, D, c0, hcap, hD⟩ := rmAt_at h
  have HD := Lib.hid hD
  have zX := World.block_lt_of_cell? _ _ c0
  have hL9 : (L.length : Int) ≤ 1000000 := by omega
  clear h hD
  go_enter Tryz.func76, Tryz.ntmps76
  go_wp2_with fail
  go_loopg [5] L.length (fun m x wr => ∃ i : Nat, x = .int .i64 i ∧ i ≤ L.length ∧ m = L.length - i ∧ Hid (∀ j, j < i → (L.getD j MChg.nul).id ≠ z) ∧ Gr W wr)
  case atStart => exact ⟨0, rfl, Nat.zero_le _, by omega, Lib.hid (fun j hj => absurd hj (Nat.not_lt_zero _)), Below.refl _ _⟩
  case round =>
    obtain ⟨i, rfl, hi, hk, HA, gwr⟩ := hrel
    have d0 := cell_gr gwr c0
    have zr := World.block_lt_of_cell? _ _ d0
    by_cases hlt : i < L.length
    · have ti : decide ((i : Int) < (L.length : Int)) = true := decide_eq_true (by omega)
      have ti2 : decide (i < L.length) = true := decide_eq_true hlt
      have ti3 : (i : Int) < (L.length : Int) := by omega
      have ti4 : (i : Int) < (cap : Int) := by omega
      have ti5 : (i : Int) ≤ 1000000 := by omega
      have hmm2 : L.length - (i + 1) < gk := by omega
      obtain ⟨rfl, q0, -, -⟩ := HD.out i hlt
      have p0 := cell_gr gwr q0
      have zD := World.block_lt_of_cell? _ _ p0
      obtain ⟨y, hy⟩ : ∃ y, y = (L.getD i MChg.nul).id := ⟨_, rfl⟩
      rw [← hy] at p0
      have HY := Lib.hid hy
      clear q0 hy
      by_cases e : y = z
      · have te : (y == z) = true := by simpa using e
        have HE := Lib.hid e
        clear e
        go_wp2_with fail
        go_ret
        exact ⟨_, rfl, Or.inr ⟨i, hlt, rfl, by rw [← HY.out]; exact HE.out⟩, gwr⟩
      · have te : (y == z) = false := by simpa using e
        have HE := Lib.hid e
        clear e
        go_wp2_with fail
        go_roundg (L.length - (i + 1))
        case measure => omega
        case rel => exact ⟨i + 1, by go_num, by omega, rfl, Lib.hid (fun j hj => by
          by_cases e : j = i
          · rw [e, ← HY.out]; exact HE.out
          · exact HA.out j (by omega)), gwr⟩
    · obtain rfl : i = L.length := by omega
      have ti : decide ((L.length : Int) < (L.length : Int)) = false := decide_eq_false (by omega)
      have ti2 : decide (L.length < L.length) = false := decide_eq_false (by omega)
      clear hk
      go_wp2_with fail
      go_ret
      exact ⟨_, rfl, Or.inl ⟨rfl, HA.out⟩, gwr⟩
end Go.Proofs.YtpomllpplpalkaaGreatDoor
