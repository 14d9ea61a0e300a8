/- FaultJoins: the errors of a row of numbers -/
import Derived.Test.YtgmmhddlfalehaaDoorLt
namespace Go.Proofs.YtgmmhddlfalehaaDoor
set_option linter.unusedVariables false
set_option linter.unusedSimpArgs false
open Go.ChangeShapes Go.WideShapes Go.ChangeAt Go.RowKit

def xOp : ByteArray := ⟨#[120]⟩
def inR (z : Int) : Bool := decide (1 ≤ z ∧ z ≤ 15)
def jE (z : Int) : Er := if inR z = true then .flt xOp z (.num z) else .nil
def jK (L : List Int) (i : Nat) : Er := jE (L.getD i 0)
/-- The numbers that are errors. -/
def zsL (L : List Int) : Nat → List Int
  | 0 => []
  | i + 1 => if inR (L.getD i 0) = true then zsL L i ++ [L.getD i 0] else zsL L i
theorem jE_in {z : Int} (h : inR z = true) : jE z = .flt xOp z (.num z) := if_pos h
theorem jE_out {z : Int} (h : inR z = false) : jE z = .nil := if_neg (by rw [h]; decide)
section
variable {L : List Int}
theorem zs_in {i : Nat} (h : inR (L.getD i 0) = true) : zsL L (i + 1) = zsL L i ++ [L.getD i 0] := if_pos h
theorem zs_out {i : Nat} (h : inR (L.getD i 0) = false) : zsL L (i + 1) = zsL L i := if_neg (by rw [h]; decide)
theorem zs_all : ∀ i, ∀ z ∈ zsL L i, inR z = true
  | 0, z, h => by cases h
  | i + 1, z, h => by
    cases hi : inR (L.getD i 0) with
    | true =>
      rw [zs_in hi] at h
      rcases List.mem_append.1 h with h | h
      · exact zs_all i z h
      · obtain rfl : z = L.getD i 0 := by simpa using h
        exact hi
    | false => rw [zs_out hi] at h; exact zs_all i z h
theorem zs_mem {z : Int} (hz : inR z = true) : ∀ i, z ∈ zsL L i ↔ ∃ j, j < i ∧ L.getD j 0 = z
  | 0 => ⟨fun h => (by cases h), fun ⟨j, h, _⟩ => absurd h (Nat.not_lt_zero _)⟩
  | i + 1 => by
    have ih := zs_mem hz i
    constructor
    · intro h
      cases hi : inR (L.getD i 0) with
      | true =>
        rw [zs_in hi] at h
        rcases List.mem_append.1 h with h | h
        · obtain ⟨j, h1, h2⟩ := ih.1 h; exact ⟨j, by omega, h2⟩
        · exact ⟨i, by omega, (List.mem_singleton.1 h).symm⟩
      | false =>
        rw [zs_out hi] at h
        obtain ⟨j, h1, h2⟩ := ih.1 h
        exact ⟨j, by omega, h2⟩
    · rintro ⟨j, h1, h2⟩
      by_cases e : j = i
      · subst e
        have hi : inR (L.getD j 0) = true := by rw [h2]; exact hz
        rw [zs_in hi, h2]
        exact List.mem_append.2 (Or.inr (List.mem_singleton.2 rfl))
      · have := ih.2 ⟨j, by omega, h2⟩
        cases hi : inR (L.getD i 0) with
        | true => rw [zs_in hi]; exact List.mem_append.2 (Or.inl this)
        | false => rw [zs_out hi]; exact this
theorem nn_zs : ∀ i, nnL (jK L) i = (zsL L i).map jE
  | 0 => rfl
  | i + 1 => by
    cases hi : inR (L.getD i 0) with
    | true =>
      rw [nnL_some (by show (jE (L.getD i 0)).isNil = false; rw [jE_in hi]; rfl), nn_zs i, zs_in hi, List.map_append]
      rfl
    | false =>
      rw [nnL_nil (by show jE (L.getD i 0) = .nil; exact jE_out hi), nn_zs i, zs_out hi]
theorem zs_len (i : Nat) : (zsL L i).length ≤ i := by
  have := nnL_le (jK L) i
  rw [nn_zs, List.length_map] at this
  exact this
theorem zs_keeps {z : Int} {t : List Int} {i : Nat} (h : zsL L i = z :: t) : ∀ r, ∃ t', zsL L (i + r) = z :: t'
  | 0 => ⟨t, h⟩
  | r + 1 => by
    obtain ⟨t', ht⟩ := zs_keeps h r
    show ∃ t', zsL L (i + r + 1) = z :: t'
    cases hi : inR (L.getD (i + r) 0) with
    | true => rw [zs_in hi, ht]; exact ⟨_, rfl⟩
    | false => rw [zs_out hi, ht]; exact ⟨_, rfl⟩
def hdE : List Int → Er
  | [] => .nil
  | z :: _ => jE z
theorem fk_zs : ∀ (r i : Nat), zsL L i = [] → fkE (jK L) i r = hdE (zsL L (i + r))
  | 0, i, h => by show Er.nil = hdE (zsL L i); rw [h]; rfl
  | r + 1, i, h => by
    show (if (jE (L.getD i 0)).isNil then fkE (jK L) (i + 1) r else jE (L.getD i 0)) = _
    cases hi : inR (L.getD i 0) with
    | true =>
      rw [jE_in hi, show (Er.flt xOp (L.getD i 0) (.num (L.getD i 0))).isNil = false from rfl, if_neg Bool.false_ne_true]
      have h1 : zsL L (i + 1) = L.getD i 0 :: [] := by rw [zs_in hi, h]; rfl
      obtain ⟨t', ht⟩ := zs_keeps h1 r
      rw [show i + (r + 1) = i + 1 + r by omega, ht]
      exact (jE_in hi).symm
    | false =>
      rw [jE_out hi, show Er.nil.isNil = true from rfl, if_pos rfl, fk_zs r (i + 1) (by rw [zs_out hi, h]), show i + (r + 1) = i + 1 + r by omega]
/-- The first number that is an error; 0. -/
def fzL (L : List Int) (i : Nat) : Int := (zsL L i).headD 0
theorem fz_out {i : Nat} (h : inR (L.getD i 0) = false) : fzL L (i + 1) = fzL L i := by unfold fzL; rw [zs_out h]
theorem fz_in0 {i : Nat} (h : inR (L.getD i 0) = true) (h0 : fzL L i = 0) : fzL L (i + 1) = L.getD i 0 := by
  unfold fzL at *
  rw [zs_in h]
  cases hz : zsL L i with
  | nil => rfl
  | cons z t =>
    rw [hz] at h0
    have := zs_all (L := L) i z (by rw [hz]; exact List.mem_cons_self ..)
    have h0' : z = 0 := h0
    rw [h0'] at this
    cases this
theorem fz_in1 {i : Nat} (h : inR (L.getD i 0) = true) (h0 : fzL L i ≠ 0) : fzL L (i + 1) = fzL L i := by
  unfold fzL at *
  rw [zs_in h]
  cases hz : zsL L i with
  | nil => rw [hz] at h0; exact absurd rfl h0
  | cons z t => rfl
theorem fz_nil {i : Nat} (h : fzL L i = 0) : zsL L i = [] := by
  unfold fzL at h
  cases hz : zsL L i with
  | nil => rfl
  | cons z t =>
    rw [hz] at h
    have := zs_all (L := L) i z (by rw [hz]; exact List.mem_cons_self ..)
    have h0' : z = 0 := h
    rw [h0'] at this
    cases this
theorem fz_some {i : Nat} (h : fzL L i ≠ 0) : ∃ t, zsL L i = fzL L i :: t ∧ inR (fzL L i) = true := by
  unfold fzL at h ⊢
  cases hz : zsL L i with
  | nil => rw [hz] at h; exact absurd rfl h
  | cons z t => exact ⟨t, rfl, zs_all (L := L) i z (by rw [hz]; exact List.mem_cons_self ..)⟩
end
theorem inR_iff {z : Int} : inR z = true ↔ 1 ≤ z ∧ z ≤ 15 := by unfold inR; rw [decide_eq_true_iff]
theorem jT_size (Z : List Int) : (joT (Z.map jE)).size ≤ 1 + 2 * Z.length := by
  have hs : ∀ z, (jE z).size ≤ 2 := fun z => by
    unfold jE
    split
    · show 1 + 1 ≤ 2; omega
    · show 1 ≤ 2; omega
  have hsum : ∀ (f : Nat → Nat) n, (∀ i, f i ≤ 2) → erSum f n ≤ 2 * n := fun f n hf => by
    induction n with
    | zero => exact Nat.le_refl _
    | succ n ih => have := hf n; show erSum f n + f n ≤ 2 * (n + 1); omega
  unfold joT
  split
  · show 1 ≤ _; omega
  · show 1 + erSum (fun i => ((Z.map jE).getD i .nil).size) (Z.map jE).length ≤ _
    have hg : ∀ i, ((Z.map jE).getD i .nil).size ≤ 2 := fun i => by
      rw [List.getD_eq_getElem?_getD, List.getElem?_map]
      cases Z[i]? with
      | none => show 1 ≤ 2; omega
      | some z => exact hs z
    have := hsum (fun i => ((Z.map jE).getD i .nil).size) (Z.map jE).length hg
    rw [List.length_map] at this ⊢
    omega
theorem jT_first {z : Int} {t : List Int} (h : inR z = true) : firstN (joT ((z :: t).map jE)).pre = z := by
  unfold joT
  rw [if_neg (by simp)]
  show firstN (Er.wrap _ _ _ :: (((jE z).pre) ++ flatG _ 1 (t.map jE).length)) = z
  rw [jE_in h]
  rfl
theorem jT_joi {w : World} {Z : List Int} {P : Nat} (hZ : ∀ z ∈ Z, inR z = true) (hn : Z ≠ []) (h : ErT w (joT (Z.map jE)) (.iface 89 (.pointer (some ⟨P, 0, none⟩)))) : Joi w P Z.length (fun i => Z.getD i 0) := by
  unfold joT at h
  rw [if_neg (by simpa using hn)] at h
  obtain ⟨-, P', ad, cap, B, off, e, c0, h1, h2, h3, h4⟩ := h
  simp only [Value.iface.injEq, Value.pointer.injEq, Option.some.injEq, Addr.mk.injEq, true_and, and_true] at e
  subst e
  rw [List.length_map] at c0 h1 h3 h4
  refine ⟨ad, cap, B, off, c0, h1, h2, h3, fun i hi => ?_⟩
  obtain ⟨u, hu, hE⟩ := h4 i hi
  have hg : (Z.map jE).getD i .nil = jE (Z.getD i 0) := by
    rw [List.getD_eq_getElem?_getD, List.getElem?_map, List.getElem?_eq_getElem hi, List.getD_eq_getElem?_getD, List.getElem?_eq_getElem hi]
    rfl
  have hm : Z.getD i 0 ∈ Z := by
    rw [List.getD_eq_getElem?_getD, List.getElem?_eq_getElem hi]
    exact List.getElem_mem hi
  have hE' : ErT w (jE (Z.getD i 0)) u := hg ▸ hE
  rw [jE_in (hZ _ hm)] at hE'
  obtain ⟨F, u', rfl, cF, hk⟩ := hE'
  exact ⟨1, _, hu, F, u', rfl, Hm.cell_of_heap cF 2, hk⟩
theorem jT_form {w : World} {Z : List Int} {u : Value} (hn : Z ≠ []) (h : ErT w (joT (Z.map jE)) u) : ∃ P, u = .iface 89 (.pointer (some ⟨P, 0, none⟩)) := by
  unfold joT at h
  rw [if_neg (by simpa using hn)] at h
  obtain ⟨-, P, ad, cap, B, off, rfl, -⟩ := h
  exact ⟨P, rfl⟩
theorem getD_ex {Z : List Int} {k : Int} : (∃ i, i < Z.length ∧ Z.getD i 0 = k) ↔ k ∈ Z := by
  constructor
  · rintro ⟨i, hi, rfl⟩
    rw [List.getD_eq_getElem?_getD, List.getElem?_eq_getElem hi]
    exact List.getElem_mem hi
  · intro h
    obtain ⟨i, hi, rfl⟩ := List.getElem_of_mem h
    exact ⟨i, hi, by rw [List.getD_eq_getElem?_getD, List.getElem?_eq_getElem hi]; rfl⟩
/-- Is a number among the first of a row? -/
def metB (L : List Int) (k : Int) : Nat → Bool
  | 0 => false
  | t + 1 => metB L k t || (L.getD t 0 == k)
theorem met_iff {L : List Int} {k : Int} : ∀ t, metB L k t = true ↔ ∃ j, j < t ∧ L.getD j 0 = k
  | 0 => ⟨fun h => (by cases h), fun ⟨j, h, _⟩ => absurd h (Nat.not_lt_zero _)⟩
  | t + 1 => by
    have ih := met_iff (L := L) (k := k) t
    show (metB L k t || (L.getD t 0 == k)) = true ↔ _
    rw [Bool.or_eq_true, ih, beq_iff_eq]
    constructor
    · rintro (⟨j, h1, h2⟩ | h)
      · exact ⟨j, by omega, h2⟩
      · exact ⟨t, by omega, h⟩
    · rintro ⟨j, h1, h2⟩
      by_cases e : j = t
      · subst e; exact Or.inr h2
      · exact Or.inl ⟨j, by omega, h2⟩
/-- An error of a number, at its place. -/
def JAt (w : World) (z : Int) (u : Value) : Prop := (inR z = false ∧ u = .nilIface) ∨ (inR z = true ∧ ∃ F, u = .iface 29 (.pointer (some ⟨F, 0, none⟩)) ∧ w.heap[F]? = some (.cells #[.string xOp, .int .i64 z, .iface 25 (.int .i64 z)] 33 (0, 0)))
theorem jAt_erT {w : World} {z : Int} {u : Value} (h : JAt w z u) : ErT w (jE z) u := by
  rcases h with ⟨h, rfl⟩ | ⟨h, F, rfl, hF⟩
  · rw [jE_out h]; rfl
  · rw [jE_in h]; exact ⟨F, _, rfl, hF, rfl⟩
theorem jAt_kx {a b : World} {z : Int} {u sv : Value} {base m : Nat} {us : List Value} (h : JAt a z u) (hr : a.ownsRow base 27 1 sv m us) (K : Kx (fun k => sv.ownBlock = some k) a b) : JAt b z u := by
  rcases h with h | ⟨h, F, rfl, hF⟩
  · exact Or.inl h
  · refine Or.inr ⟨h, F, rfl, heap_kx K (fun e => ?_) hF⟩
    obtain ⟨-, cur, hc⟩ := own_ty hr e
    rw [hc] at hF
    simp at hF
theorem jAt_gr {a b : World} {z : Int} {u : Value} (h : JAt a z u) (g : Gr a b) : JAt b z u := by
  rcases h with h | ⟨h, F, rfl, hF⟩
  · exact Or.inl h
  · exact Or.inr ⟨h, F, rfl, heap_kx (S := fun _ => False) (Kx.of_gr g) (fun h => h) hF⟩
/-- The row that the law makes. -/
def AllS (W w : World) (L : List Int) (i : Nat) (sv : Value) : Prop := ∃ us, w.ownsRow W.heap.size 27 1 sv i us ∧ (∀ j, j < i → ∃ u, us[j]? = some u ∧ JAt w (L.getD j 0) u) ∧ Gr W w
theorem allS_put {W a b : World} {L : List Int} {i : Nat} {sv x u : Value} {us : List Value} (h1 : a.ownsRow W.heap.size 27 1 sv i us) (h2 : ∀ j, j < i → ∃ u, us[j]? = some u ∧ JAt a (L.getD j 0) u)
    (K : Kx (fun k => sv.ownBlock = some k) a b) (o : b.ownsRow W.heap.size 27 1 x (i + 1) (us ++ [u])) (hu : JAt b (L.getD i 0) u) (g : Gr W b) : AllS W b L (i + 1) x := by
  have hul : us.length = i := by have := h1.1; omega
  refine ⟨us ++ [u], o, fun j hj => ?_, g⟩
  by_cases e : j = i
  · rw [e]
    exact ⟨u, by rw [← hul, List.getElem?_concat_length], hu⟩
  · obtain ⟨u', hu', hJ⟩ := h2 j (by omega)
    exact ⟨u', by rw [List.getElem?_append_left (by omega)]; exact hu', jAt_kx hJ h1 K⟩
theorem allS_errs {W w : World} {L : List Int} {i : Nat} {sv : Value} (h : AllS W w L i sv) : Errs w sv i (jK L) := by
  obtain ⟨us, h1, h2, g⟩ := h
  obtain ⟨D, ad, cap, e, d1, d2, d3, d5⟩ := rowX h1
  exact ⟨ad, cap, D, 0, e, d2, by omega, d1, fun j hj => by
    obtain ⟨u, hu, hJ⟩ := h2 j hj
    exact ⟨u, by rw [Nat.zero_add, d5 j (by omega)]; exact hu, jAt_erT hJ⟩⟩
theorem new_j {z : Int} (w : World) (hz : inR z = true) : Calls Tryd.prog 6 #[.string xOp, .int .i64 z, .iface 25 (.int .i64 z)] w fun e w' => ∃ F, e = .returned (.iface 29 (.pointer (some ⟨F, 0, none⟩))) ∧ JAt w' z (.iface 29 (.pointer (some ⟨F, 0, none⟩))) ∧ Gr w w' := by
  refine (c_fNewE (T := .num z) xOp z w rfl rfl).mono ?_
  rintro e w' ⟨F, rfl, hT, -, g⟩
  obtain ⟨F', u, e', c0, hu⟩ := hT
  simp only [Value.iface.injEq, Value.pointer.injEq, Option.some.injEq, Addr.mk.injEq, true_and, and_true] at e'
  subst e'
  obtain rfl : u = .iface 25 (.int .i64 z) := hu
  exact ⟨F, rfl, Or.inr ⟨hz, F, rfl, c0⟩, g⟩
end Go.Proofs.YtgmmhddlfalehaaDoor
