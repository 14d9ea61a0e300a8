/- fault: what a walk visits, and in what order -/
import Derived.Test.YtgmmhddlfalehaaLe
namespace Go.Proofs.Ytgmmhddlfalehaa
set_option linter.unusedVariables false
set_option linter.unusedSimpArgs false
open Go.ChangeShapes Go.WideShapes Go.ChangeAt Go.RowKit

def flatG {α : Type} (f : Nat → List α) : Nat → Nat → List α
  | _, 0 => []
  | lo, n + 1 => f lo ++ flatG f (lo + 1) n
/-- All errors within, in order. -/
def Er.pre : Er → List Er
  | .nil => []
  | .num k => [.num k]
  | .flt op id k => .flt op id k :: k.pre
  | .nflt => [.nflt]
  | .plain T x => [.plain T x]
  | .cov T k => .cov T k :: k.pre
  | .wrap T n kids => .wrap T n kids :: flatG (fun i => (kids i).pre) 0 n
theorem er_pre {T : Er} (h : T ≠ .nil) : T.pre = T :: flatG (fun i => (T.kid i).pre) 0 T.kidN := by
  cases T with
  | nil => exact absurd rfl h
  | num => rfl
  | flt op id kid => show _ :: kid.pre = _ :: (kid.pre ++ []); rw [List.append_nil]
  | nflt => rfl
  | plain => rfl
  | cov T kid => show _ :: kid.pre = _ :: (kid.pre ++ []); rw [List.append_nil]
  | wrap => rfl
/-- A visit after the other, till it is enough. -/
def runV {σ : Type} (vis : σ → Er → σ × Bool) : σ → List Er → σ
  | s, [] => s
  | s, x :: l => if (vis s x).2 = true then (vis s x).1 else runV vis (vis s x).1 l
def It.fut : It → List Er
  | .look T _ => T.pre
  | .leave _ _ => []
/-- What is still to be visited: the top, the last one, first. -/
def futI (st : List It) : List Er := st.reverse.flatMap It.fut
theorem futI_snoc (st : List It) (x : It) : futI (st ++ [x]) = x.fut ++ futI st := by
  unfold futI
  rw [List.reverse_append, List.flatMap_append]
  simp
theorem futI_append (a b : List It) : futI (a ++ b) = futI b ++ futI a := by
  unfold futI
  rw [List.reverse_append, List.flatMap_append]
theorem futI_kst (kids : Nat → Er) (us : Nat → Value) (m : Nat) : ∀ t, t ≤ m → futI (kst kids us m t) = flatG (fun i => (kids i).pre) (m - t) t
  | 0, _ => rfl
  | t + 1, h => by
    rw [kst_succ, futI_snoc, futI_kst kids us m t (by omega)]
    show (kids (m - 1 - t)).pre ++ _ = (kids (m - (t + 1))).pre ++ flatG _ (m - (t + 1) + 1) t
    rw [show m - 1 - t = m - (t + 1) by omega, show m - (t + 1) + 1 = m - t by omega]
/-- How many steps it is at most. -/
def It.wt : It → Nat
  | .look T _ => 2 * T.size
  | .leave _ _ => 1
def wtI : List It → Nat
  | [] => 0
  | x :: l => x.wt + wtI l
theorem wtI_append : ∀ (a b : List It), wtI (a ++ b) = wtI a + wtI b
  | [], b => by show wtI b = 0 + wtI b; omega
  | x :: a, b => by show x.wt + wtI (a ++ b) = x.wt + wtI a + wtI b; rw [wtI_append a b]; omega
theorem wtI_snoc (st : List It) (x : It) : wtI (st ++ [x]) = wtI st + x.wt := by rw [wtI_append]; rfl
def sumG (f : Nat → Nat) : Nat → Nat → Nat
  | _, 0 => 0
  | lo, n + 1 => f lo + sumG f (lo + 1) n
theorem sumG_snoc (f : Nat → Nat) : ∀ n lo, sumG f lo (n + 1) = sumG f lo n + f (lo + n)
  | 0, lo => by show f lo + 0 = 0 + f (lo + 0); rw [Nat.add_zero, Nat.add_zero, Nat.zero_add]
  | n + 1, lo => by
    show f lo + sumG f (lo + 1) (n + 1) = (f lo + sumG f (lo + 1) n) + f (lo + (n + 1))
    rw [sumG_snoc f n (lo + 1), show lo + 1 + n = lo + (n + 1) by omega]
    omega
theorem sumG_er (f : Nat → Nat) : ∀ n, sumG f 0 n = erSum f n
  | 0 => rfl
  | n + 1 => by rw [sumG_snoc, sumG_er f n, Nat.zero_add]; rfl
theorem wtI_kst (kids : Nat → Er) (us : Nat → Value) (m : Nat) : ∀ t, t ≤ m → wtI (kst kids us m t) = 2 * sumG (fun i => (kids i).size) (m - t) t
  | 0, _ => rfl
  | t + 1, h => by
    rw [kst_succ, wtI_snoc, wtI_kst kids us m t (by omega)]
    show _ + 2 * (kids (m - 1 - t)).size = 2 * ((kids (m - (t + 1))).size + sumG _ (m - (t + 1) + 1) t)
    rw [show m - 1 - t = m - (t + 1) by omega, show m - (t + 1) + 1 = m - t by omega]
    omega
theorem wt_kids (T : Er) (us : Nat → Value) : wtI (kst T.kid us T.kidN T.kidN) + 2 = 2 * T.size := by
  rw [wtI_kst _ _ _ _ (Nat.le_refl _), Nat.sub_self, sumG_er, er_sum T]
  omega
theorem futI_kids (T : Er) (us : Nat → Value) (st : List It) (h : T ≠ .nil) : T :: futI (st ++ kst T.kid us T.kidN T.kidN) = T.pre ++ futI st := by
  rw [futI_append, futI_kst _ _ _ _ (Nat.le_refl _), Nat.sub_self, er_pre h]
  rfl
/-- The Faults that are left behind, from the bottom on. -/
def leavesI : List It → List Nat
  | [] => []
  | .look _ _ :: l => leavesI l
  | .leave F _ :: l => F :: leavesI l
theorem leavesI_append : ∀ (a b : List It), leavesI (a ++ b) = leavesI a ++ leavesI b
  | [], b => rfl
  | .look _ _ :: a, b => leavesI_append a b
  | .leave F _ :: a, b => by show F :: leavesI (a ++ b) = F :: (leavesI a ++ leavesI b); rw [leavesI_append a b]
theorem leavesI_mem : ∀ {st : List It} {F : Nat}, F ∈ leavesI st → ∃ T, It.leave F T ∈ st
  | .look _ _ :: l, F, h => by obtain ⟨T, hT⟩ := leavesI_mem (st := l) h; exact ⟨T, List.mem_cons_of_mem _ hT⟩
  | .leave G U :: l, F, h => by
    rcases List.mem_cons.1 h with h | h
    · subst h; exact ⟨U, List.mem_cons_self⟩
    · obtain ⟨T, hT⟩ := leavesI_mem (st := l) h; exact ⟨T, List.mem_cons_of_mem _ hT⟩
theorem leavesI_kst (kids : Nat → Er) (us : Nat → Value) (m : Nat) : ∀ t, leavesI (kst kids us m t) = []
  | 0 => rfl
  | t + 1 => by rw [kst_succ, leavesI_append, leavesI_kst kids us m t]; rfl
/-- A step that may stand on a stack: what is looked at lies within each Fault that is left behind below it. -/
def ItOk (W0 : World) (below : List It) : It → Prop
  | .look T v => ErT W0 T v ∧ ∀ F U, It.leave F U ∈ below → T.size < U.size
  | .leave F T => ErT W0 T (.iface 33 (ptrV F)) ∧ F ∉ leavesI below
def StOk (W0 : World) : List It → Prop := fun st => ∀ a x b, st = a ++ x :: b → ItOk W0 a x
theorem stOk_init {W0 : World} {st : List It} {x : It} (h : StOk W0 (st ++ [x])) : StOk W0 st ∧ ItOk W0 st x := by
  refine ⟨fun a y b e => h a y (b ++ [x]) (by rw [e]; simp), h st x [] rfl⟩
theorem stOk_snoc {W0 : World} {st : List It} {x : It} (h : StOk W0 st) (hx : ItOk W0 st x) : StOk W0 (st ++ [x]) := fun a y b e => by
  rcases List.eq_nil_or_concat b with rfl | ⟨b', z, rfl⟩
  · have : st ++ [x] = a ++ [y] := e
    obtain ⟨rfl, h2⟩ := List.append_inj' this rfl
    obtain rfl : x = y := by simpa using h2
    exact hx
  · have : st ++ [x] = (a ++ y :: b') ++ [z] := by rw [e]; simp
    obtain ⟨rfl, -⟩ := List.append_inj' this rfl
    exact h a y b' rfl
theorem stOk_kst {W0 : World} {st : List It} {kids : Nat → Er} {us : Nat → Value} {m : Nat} (h : StOk W0 st) (hk : ∀ i, i < m → ErT W0 (kids i) (us i)) (hs : ∀ i, i < m → ∀ F U, It.leave F U ∈ st → (kids i).size < U.size) : ∀ t, t ≤ m → StOk W0 (st ++ kst kids us m t)
  | 0, _ => by show StOk W0 (st ++ []); rw [List.append_nil]; exact h
  | t + 1, ht => by
    rw [kst_succ, ← List.append_assoc]
    refine stOk_snoc (stOk_kst h hk hs t (by omega)) ⟨hk _ (by omega), fun F U hm => ?_⟩
    rcases List.mem_append.1 hm with hm | hm
    · exact hs _ (by omega) F U hm
    · obtain ⟨i, -, e⟩ := kst_mem hm (by omega)
      cases e
theorem stOk_leaves {W0 : World} {st : List It} (h : StOk W0 st) {F : Nat} (hF : F ∈ leavesI st) : ∃ U, It.leave F U ∈ st ∧ ErT W0 U (.iface 33 (ptrV F)) := by
  obtain ⟨U, hU⟩ := leavesI_mem hF
  obtain ⟨a, b, e⟩ := List.append_of_mem hU
  exact ⟨U, hU, (h a _ b e).1⟩
/-- What is looked at is not left behind. -/
theorem stOk_new {W0 : World} {st : List It} {T : Er} {F : Nat} (h : StOk W0 st) (hx : ItOk W0 st (.look T (.iface 33 (ptrV F)))) : F ∉ leavesI st := fun hm => by
  obtain ⟨U, hU, hE⟩ := stOk_leaves h hm
  have h1 := hx.2 F U hU
  have h2 := erT_det hx.1 hE
  omega
theorem erT_flt {w : World} {T : Er} {F : Nat} (h : ErT w T (.iface 33 (ptrV F))) : FltB w F := by
  cases T with
  | nil => cases h
  | num k => cases h
  | flt op id kid =>
    obtain ⟨F', u, e, c0, -⟩ := h
    simp only [Value.iface.injEq, Value.pointer.injEq, Option.some.injEq, Addr.mk.injEq, true_and, and_true] at e
    subst e
    exact ⟨_, c0⟩
  | nflt => cases h
  | plain T x => obtain ⟨e, hT, _⟩ := h; cases e; exact absurd rfl hT.nf
  | cov T kid => obtain ⟨hT, _, _, e, _⟩ := h; cases e; exact absurd rfl hT.nf
  | wrap T n kids => obtain ⟨hT, _, _, _, _, _, e, _⟩ := h; cases e; exact absurd rfl hT.nf
theorem er_kid_lt (T : Er) {i : Nat} (h : i < T.kidN) : (T.kid i).size < T.size := by
  have h1 := er_sum T
  have h2 := erSum_le (fun i => (T.kid i).size) T.kidN i h
  omega
end Go.Proofs.Ytgmmhddlfalehaa
