/- stage: what the changes make; the changed ids, rising -/
import Derived.Test.YtpomllpplpalkaaGreatDoorTf
namespace Go.Proofs.YtpomllpplpalkaaGreatDoor
set_option linter.unusedVariables false
set_option linter.unusedSimpArgs false
open Go.ChangeShapes Go.WideShapes Go.ChangeAt Go.RowKit Go.Maps Go.Sort Go.Shelf

def sameM (o p : MO) : Bool := decide (o.k = p.k ∧ o.n = p.n ∧ ∀ i, i < o.n → o.X i = p.X i ∧ o.Y i = p.Y i)
theorem sameM_iff {o p : MO} : sameM o p = true ↔ (o.k = p.k ∧ o.n = p.n ∧ ∀ i, i < o.n → o.X i = p.X i ∧ o.Y i = p.Y i) := by unfold sameM; rw [decide_eq_true_eq]
def delC (z : Int) : CS := ⟨2, z, MO.zero⟩
def putC (z : Int) (o : MO) : CS := ⟨1, z, o⟩
def netO (z : Int) : Option MO → Option MO → List CS
  | none, none => []
  | some _, none => [delC z]
  | none, some p => [putC z p]
  | some o, some p => if sameM o p = true then [] else [delC z, putC z p]
def netL (s t : Int → Option MO) : List Int → List CS
  | [] => []
  | z :: l => netO z (s z) (t z) ++ netL s t l
theorem netL_app (s t : Int → Option MO) : ∀ l l' : List Int, netL s t (l ++ l') = netL s t l ++ netL s t l'
  | [], _ => rfl
  | z :: l, l' => by show netO _ _ _ ++ netL s t (l ++ l') = (netO _ _ _ ++ netL s t l) ++ netL s t l'; rw [netL_app s t l l', List.append_assoc]
theorem netL_take {s t : Int → Option MO} {l : List Int} {i : Nat} (hi : i < l.length) : netL s t (l.take (i + 1)) = netL s t (l.take i) ++ netO (l.getD i 0) (s (l.getD i 0)) (t (l.getD i 0)) := by
  rw [List.take_add_one, List.getElem?_eq_getElem hi, netL_app, List.getD_eq_getElem?_getD, List.getElem?_eq_getElem hi]
  show _ ++ (netO _ _ _ ++ []) = _
  rw [List.append_nil]
  rfl
theorem netO_len (z : Int) (a b : Option MO) : (netO z a b).length ≤ 2 := by
  cases a <;> cases b <;> simp only [netO, List.length_nil, List.length_cons] <;> first | omega | (split <;> simp)
theorem netL_len (s t : Int → Option MO) : ∀ l : List Int, (netL s t l).length ≤ 2 * l.length
  | [] => Nat.le_refl _
  | z :: l => by
    show (netO _ _ _ ++ netL s t l).length ≤ 2 * (l.length + 1)
    have := netO_len z (s z) (t z)
    have := netL_len s t l
    rw [List.length_append]
    omega
def KIds (P : Int → Prop) (l : List Int) : Prop := l.Pairwise (· < ·) ∧ ∀ z, z ∈ l ↔ (i64R z ∧ P z)
theorem kIds_uniq {P : Int → Prop} {l l' : List Int} (h : KIds P l) (h' : KIds P l') : l = l' := by
  have p : l.Perm l' := (List.perm_ext_iff_of_nodup (h.1.imp (fun h => Int.ne_of_lt h)) (h'.1.imp (fun h => Int.ne_of_lt h))).2 fun z => (h.2 z).trans (h'.2 z).symm
  exact List.Perm.eq_of_pairwise (le := (· < ·)) (fun a b _ _ h1 h2 => by omega) h.1 h'.1 p
theorem keys_of {w : World} {m N : Nat} {D : DataW Value} {P : Int → Prop} (hD : w.ownsMap Tryz.prog 3 heldE m N D) (hP : ∀ z, i64R z → (Maps.has D (zk z) = true ↔ P z)) : KIds P ((intKeys D).mergeSort leI) ∧ ((intKeys D).mergeSort leI).length = Maps.size D := by
  have hwf := intKeys_wf hD Tryz.underlying3
  obtain ⟨es, hE, hpw, _⟩ := hD.entries KI
  obtain ⟨es', hE', hko⟩ := hD.keysOf
  obtain rfl : es = es' := by rw [hE] at hE'; simpa using hE'
  subst hE
  have hk : ∀ p ∈ es, ∃ x, p.1 = .int .i64 x := fun p hp => by
    obtain ⟨v, hv⟩ := hko p hp
    obtain ⟨x, _, hx, _⟩ := Maps.keyOf_i64 Tryz.underlying3 hv
    exact ⟨x, hx⟩
  have hnd : (intKeys (.map es : DataW Value)).Nodup := by
    show (es.map fun p => Go.intOf p.1).Nodup
    refine List.pairwise_map.2 (hpw.imp_of_mem fun {p q} hp' hq' hne e => hne ?_)
    obtain ⟨a, ha⟩ := hk p hp'
    obtain ⟨b, hb⟩ := hk q hq'
    rw [ha, hb] at e ⊢
    exact congrArg _ e
  have tr : ∀ a b c : Int, leI a b = true → leI b c = true → leI a c = true := fun a b c h1 h2 => by simp only [leI, decide_eq_true_eq] at *; exact Int.le_trans h1 h2
  have tot : ∀ a b : Int, (leI a b || leI b a) = true := fun a b => by simp only [leI, Bool.or_eq_true, decide_eq_true_eq]; exact Int.le_total a b
  have hp := List.mergeSort_perm (intKeys (.map es : DataW Value)) leI
  refine ⟨⟨?_, fun z => ?_⟩, ?_⟩
  · refine ((List.pairwise_mergeSort tr tot (intKeys (.map es : DataW Value))).and (hp.nodup_iff.2 hnd)).imp (fun {a b} h => ?_)
    have h1 := h.1
    have h2 : a ≠ b := h.2
    simp only [leI, decide_eq_true_eq] at h1
    omega
  · rw [hp.mem_iff]
    constructor
    · intro hz
      have hi := wf_i64R (hwf z hz)
      refine ⟨hi, (hP z hi).1 ?_⟩
      obtain ⟨p, hp', e⟩ := List.mem_map.1 hz
      obtain ⟨a, ha⟩ := hk p hp'
      have ea : a = z := by rw [ha] at e; exact e
      subst ea
      rw [has_eq, List.any_eq_true]
      exact ⟨p, hp', by rw [ha]; simp [Lit.sameKey]⟩
    · rintro ⟨hi, hs⟩
      have h1 := (hP z hi).2 hs
      rw [has_eq, List.any_eq_true] at h1
      obtain ⟨p, hp', e⟩ := h1
      obtain ⟨a, ha⟩ := hk p hp'
      refine List.mem_map.2 ⟨p, hp', ?_⟩
      rw [ha] at e ⊢
      simpa [Lit.sameKey, Go.intOf] using e
  · rw [hp.length_eq]
    show (es.map fun p => Go.intOf p.1).length = es.length
    exact List.length_map _
set_option maxHeartbeats 1000000 in
theorem c_keysS {m n : Nat} {D : DataW Value} (W : World) (hm : W.ownsMap Tryz.prog 3 heldE m n D) :
    CallsIn Fence.wide 5 Tryz.prog 65 #[.map (some m)] W fun e w' => e = .returned (.func (.func 102) #[] #[.pointer (some ⟨W.heap.size, 0, none⟩)]) ∧ w' = W.alloc (.cells #[.map (some m)] 117) := AnyZI.keys_in Tryz.keysK65 Fence.wide 5 trivial rfl (some m) W
set_option maxHeartbeats 1000000 in
theorem c_sortedS {m n : Nat} {D : DataW Value} (W : World) (hm : W.ownsMap Tryz.prog 3 heldE m n D) (hsz : Maps.size D ≤ 1000000) : CallsIn Fence.wide 5 Tryz.prog 64 #[.func (.func 102) #[] #[.pointer (some ⟨W.heap.size, 0, none⟩)]] (W.alloc (.cells #[.map (some m)] 117)) fun e w' => ∃ (v : Value) (ss : List Int), e = .returned v ∧ ss.Perm (intKeys D) ∧ w'.ownsRow W.heap.size 3 1 v ss.length ((ss.mergeSort (fun x y => decide (x ≤ y))).map encZ) ∧ Gr W w' := by
  have hbl := hm.lt
  have hmax : Maps.size D ≤ maxLen := by unfold maxLen; omega
  have hbytes : Maps.size D * 8 ≤ 140737488355328 := by omega
  have hseq : SeqGives Fence.wide 2 Tryz.prog 102 #[.pointer (some ⟨W.heap.size, 0, none⟩)] encZ (fun ss : List Int => ss.Perm (intKeys D)) (Maps.size D) (W.alloc (.cells #[.map (some m)] 117)) :=
    AnyZI.keys_gives (ρ := Tryz.keysK65_ren) { Tryz.keysK65 with } Fence.wide _ trivial rfl (by omega) W.heap.size m n D _ (by simp) (by simp) (by
      obtain ⟨es, clock, hb, Ft, hs, hD⟩ := hm
      exact ⟨es, clock, (Below.heap_alloc _ _ m hbl).trans hb, Ft, hs, hD⟩)
  have cS := AnyZI.sorted_in Tryz.sortedK Fence.wide 5 trivial trivial trivial trivial rfl (by omega) (sortsK _) (enters_of Tryz.func101 (by kernel_rfl) rfl) 102 #[.pointer (some ⟨W.heap.size, 0, none⟩)] trivial (enters_of Tryz.func102 (by kernel_rfl) rfl) _ _ hmax hbytes _ hseq
  refine cS.mono ?_
  rintro e w' ⟨v, ss, rfl, hS, hrow, hnil, hb⟩
  exact ⟨v, ss, rfl, hS, ownsRow_base_a hrow (by simp), ((Below.refl _ W).alloc (Nat.le_refl _) _).trans (hb.mono (by simp))⟩
end Go.Proofs.YtpomllpplpalkaaGreatDoor
