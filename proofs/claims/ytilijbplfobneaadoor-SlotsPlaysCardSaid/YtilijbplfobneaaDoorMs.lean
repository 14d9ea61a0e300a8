/- SlotsPlays: each call, whatever it answers, of both pages -/
import Derived.Test.YtilijbplfobneaaDoorMr
namespace Go.Proofs.YtilijbplfobneaaDoor
set_option linter.unusedVariables false
set_option linter.unusedSimpArgs false
open Go.ChangeShapes Go.WideShapes Go.ChangeAt Go.RowKit Go.Maps

/-- An error by its number, of page and slot; 0 is none. -/
def UErr (w : World) (u : Value) (id : Int) (c : Nat) : Prop := (u = .nilIface ∧ c = 0) ∨ ∃ F, u = .iface 84 (.pointer (some ⟨F, 0, none⟩)) ∧ FaultAt w F pageS id c ∧ 1 ≤ c ∧ c ≤ 15
theorem faultAt_kx {a b : World} {T : Nat → Prop} {F : Nat} {op : ByteArray} {id k : Int} (h : FaultAt a F op id k) (K : Kx T a b) (hT : ¬ T F) : FaultAt b F op id k := ⟨cell_kx K hT h.1, cell_kx K hT h.2.1, cell_kx K hT h.2.2⟩
theorem c_IsU {u : Value} {id : Int} {c : Nat} (W : World) (hE : ErrT W) (h : UErr W u id c) : Calls Tryd.prog 9 #[u, .int .i64 (c : Nat), .string pageS, .int .i64 id] W fun e w' => e = .returned (.bool true) ∧ Gr W w' := by
  rcases h with ⟨rfl, rfl⟩ | ⟨F, rfl, hF, h1, h2⟩
  · exact c_AlIs_nil pageS id W
  · exact c_AlIs_hit F pageS id c ⟨h1, h2⟩ W hE hF
/-- What a call leaves of the program's page. -/
def PTo (W : World) (B : Nat) (C : Option Nat) (kd id : Int) (S : List Sl) (w' : World) : Prop :=
  ∃ C', PageS w' B C' kd id S ∧ (C' = C ∨ ∃ D, C' = some D ∧ W.heap.size ≤ D) ∧ Kx (fun k => pgZ B C k ∨ W.heap.size ≤ k) W w'
section
variable {B : Nat} {C : Option Nat} {kd id : Int} {S : List Sl} {W w' : World}
theorem pTo_put (h : PutTo W B C kd id S w') : PTo W B C kd id S w' := by
  obtain ⟨D, h1, h2, h3⟩ := h
  refine ⟨some D, h1, ?_, h3⟩
  rcases h2 with h | h
  · exact Or.inl h.symm
  · exact Or.inr ⟨D, rfl, h⟩
theorem pTo_gr (h : PageS W B C kd id S) (g : Gr W w') : PTo W B C kd id S w' := ⟨C, pageS_gr h g, Or.inl rfl, Kx.of_gr g⟩
end
section
variable {base q : Nat} {Z : Nat → Prop} {kd id : Int} {S : List Sl} {bv hv : Value} {xs : List Value} {W w' : World}
theorem refTo_gr (h : RefP base W q Z kd id S bv hv xs) (g : Gr W w') : RefTo base W q Z kd id S w' := ⟨⟨bv, hv, xs, refP_gr h g⟩, fun _ => False, Kx.of_gr g, fun k h => h.elim, fun k h => h.elim⟩
end
theorem reS_le {S : List Sl} {n m c : Nat} (h : reS S n m = c) : c ≤ 15 := by
  cases c with
  | zero => omega
  | succ k =>
    rcases reS_cases h with ⟨-, h⟩ | ⟨-, h, -⟩ <;> omega
/-- Insert. -/
def InsR (S : List Sl) (L : List UInt8) (S' : List Sl) (c : Nat) : Prop := (reS S (lfS S) L.length = c ∧ 1 ≤ c ∧ S' = S) ∨ (reS S (lfS S) L.length = 0 ∧ c = 0 ∧ S' = insS S L)
def SetR (S : List Sl) (L : List UInt8) (n : Int) (S' : List Sl) (c : Nat) : Prop := (hasS S n = false ∧ c = 15 ∧ S' = S) ∨ ∃ k : Nat, n = k ∧ (S.getD k none).isSome = true ∧ ((reS S k L.length = c ∧ 1 ≤ c ∧ S' = S) ∨ (reS S k L.length = 0 ∧ c = 0 ∧ S' = putS S k (some L)))
def DelR (S : List Sl) (n : Int) (S' : List Sl) (c : Nat) : Prop := (hasS S n = false ∧ c = 15 ∧ S' = S) ∨ ∃ k : Nat, n = k ∧ (S.getD k none).isSome = true ∧ c = 0 ∧ S' = delS S k
def GetR (S : List Sl) (n : Int) (L : List UInt8) (c : Nat) : Prop := (hasS S n = false ∧ c = 15 ∧ L = []) ∨ ∃ k : Nat, n = k ∧ S.getD k none = some L ∧ c = 0
theorem hasS_true {S : List Sl} {n : Int} (h : hasS S n = true) : ∃ k : Nat, n = k ∧ (S.getD k none).isSome = true := by
  unfold hasS at h
  rw [Bool.and_eq_true, decide_eq_true_eq] at h
  obtain ⟨k, rfl⟩ : ∃ k : Nat, n = k := ⟨n.toNat, by omega⟩
  exact ⟨k, rfl, h.2⟩
section
variable {S S' : List Sl} {L : List UInt8} {n : Int} {c : Nat}
theorem insR_ok (h : InsR S L S' c) (hu : usS S ≤ 512) (ht : Trim S) : usS S' ≤ 512 ∧ Trim S' := by
  rcases h with ⟨-, -, rfl⟩ | ⟨he, -, rfl⟩
  · exact ⟨hu, ht⟩
  · exact ⟨usS_put (lfS_le S) he, trim_put ht (lfS_le S)⟩
theorem setR_ok (h : SetR S L n S' c) (hu : usS S ≤ 512) (ht : Trim S) : usS S' ≤ 512 ∧ Trim S' := by
  rcases h with ⟨-, -, rfl⟩ | ⟨k, -, hs, h⟩
  · exact ⟨hu, ht⟩
  · rcases h with ⟨-, -, rfl⟩ | ⟨he, -, rfl⟩
    · exact ⟨hu, ht⟩
    · have := has_lt hs
      exact ⟨usS_put (Nat.le_of_lt this) he, trim_put ht (Nat.le_of_lt this)⟩
theorem delR_ok (h : DelR S n S' c) (hu : usS S ≤ 512) (ht : Trim S) : usS S' ≤ 512 ∧ Trim S' := by
  rcases h with ⟨-, -, rfl⟩ | ⟨k, -, hs, -, rfl⟩
  · exact ⟨hu, ht⟩
  · exact ⟨Nat.le_trans (usS_del (has_lt hs)) hu, trim_del⟩
end
section
variable {B : Nat} {C : Option Nat} {kd id : Int} {S : List Sl}
theorem p_insAny {L : List UInt8} (m cap : Nat) (ad : Option Addr) (hm : m = L.length) (W : World) (h : PageS W B C kd id S) (hR : RowOff W (pgZ B C) (.slice ad m cap) L) :
    Calls Tryd.prog 12 #[.pointer (some ⟨B, 0, none⟩), .slice ad m cap] W fun e w' => ∃ (k : Nat) (u : Value) (c : Nat) (S' : List Sl), e = .returned (.tuple #[.int .i64 (k : Nat), u]) ∧ (c = 0 → k = lfS S) ∧ (c ≠ 0 → k = 0) ∧ InsR S L S' c ∧ UErr w' u (lfS S : Nat) c ∧ PTo W B C kd id S' w' := by
  by_cases he : reS S (lfS S) L.length = 0
  · refine (p_insertS m cap ad hm he W h hR).mono ?_
    rintro e w' ⟨rfl, hp⟩
    exact ⟨_, _, 0, _, rfl, fun _ => rfl, fun h => absurd rfl h, Or.inr ⟨he, rfl, rfl⟩, Or.inl ⟨rfl, rfl⟩, pTo_put hp⟩
  · obtain ⟨k1, hk1⟩ : ∃ k1, reS S (lfS S) m = k1 + 1 := ⟨reS S (lfS S) m - 1, by rw [hm]; omega⟩
    refine (p_insert_no m cap ad hk1 W h).mono ?_
    rintro e w' ⟨F, rfl, hF, g⟩
    exact ⟨0, _, k1 + 1, S, rfl, fun h => absurd h (by omega), fun _ => rfl, Or.inl ⟨by rw [← hm]; exact hk1, by omega, rfl⟩, Or.inr ⟨F, rfl, hF, by omega, reS_le hk1⟩, pTo_gr h g⟩
theorem p_setAny {L : List UInt8} (n : Int) (m cap : Nat) (ad : Option Addr) (hm : m = L.length) (W : World) (h : PageS W B C kd id S) (hR : RowOff W (pgZ B C) (.slice ad m cap) L) :
    Calls Tryd.prog 14 #[.pointer (some ⟨B, 0, none⟩), .int .i64 n, .slice ad m cap] W fun e w' => ∃ (u : Value) (c : Nat) (S' : List Sl), e = .returned u ∧ SetR S L n S' c ∧ UErr w' u n c ∧ PTo W B C kd id S' w' := by
  cases hh : hasS S n with
  | false =>
    refine (p_set_none n _ hh W h).mono ?_
    rintro e w' ⟨F, rfl, hF, g⟩
    exact ⟨_, 15, S, rfl, Or.inl ⟨hh, rfl, rfl⟩, Or.inr ⟨F, rfl, hF, by omega, by omega⟩, pTo_gr h g⟩
  | true =>
    obtain ⟨k, rfl, hs⟩ := hasS_true hh
    have hlt := has_lt hs
    by_cases he : reS S k L.length = 0
    · refine (p_setS k m cap ad hh hlt hm he W h hR).mono ?_
      rintro e w' ⟨rfl, hp⟩
      exact ⟨_, 0, _, rfl, Or.inr ⟨k, rfl, hs, Or.inr ⟨he, rfl, rfl⟩⟩, Or.inl ⟨rfl, rfl⟩, pTo_put hp⟩
    · obtain ⟨k1, hk1⟩ : ∃ k1, reS S k m = k1 + 1 := ⟨reS S k m - 1, by rw [hm]; omega⟩
      refine (p_set_no k m cap ad hh hlt hk1 W h).mono ?_
      rintro e w' ⟨F, rfl, hF, g⟩
      exact ⟨_, k1 + 1, S, rfl, Or.inr ⟨k, rfl, hs, Or.inl ⟨by rw [← hm]; exact hk1, by omega, rfl⟩⟩, Or.inr ⟨F, rfl, hF, by omega, reS_le hk1⟩, pTo_gr h g⟩
theorem p_delAny (n : Int) (W : World) (h : PageS W B C kd id S) :
    Calls Tryd.prog 16 #[.pointer (some ⟨B, 0, none⟩), .int .i64 n] W fun e w' => ∃ (u : Value) (c : Nat) (S' : List Sl), e = .returned u ∧ DelR S n S' c ∧ UErr w' u n c ∧ PTo W B C kd id S' w' := by
  cases hh : hasS S n with
  | false =>
    refine (p_delete_no n hh W h).mono ?_
    rintro e w' ⟨F, rfl, hF, g⟩
    exact ⟨_, 15, S, rfl, Or.inl ⟨hh, rfl, rfl⟩, Or.inr ⟨F, rfl, hF, by omega, by omega⟩, pTo_gr h g⟩
  | true =>
    obtain ⟨k, rfl, hs⟩ := hasS_true hh
    refine (p_deleteS k hs W h).mono ?_
    rintro e w' ⟨rfl, hp, hk⟩
    exact ⟨_, 0, _, rfl, Or.inr ⟨k, rfl, hs, rfl, rfl⟩, Or.inl ⟨rfl, rfl⟩, C, hp, Or.inl rfl, hk⟩
theorem p_getAny (n : Int) (W : World) (h : PageS W B C kd id S) :
    Calls Tryd.prog 18 #[.pointer (some ⟨B, 0, none⟩), .int .i64 n] W fun e w' => ∃ (u : Value) (c : Nat) (L : List UInt8) (ad : Option Addr) (z cp : Nat), e = .returned (.tuple #[.slice ad z cp, u]) ∧ GetR S n L c ∧ UErr w' u n c ∧ Row w' (.slice ad z cp) L ∧ Gr W w' := by
  cases hh : hasS S n with
  | false =>
    refine (p_get_no n hh W h).mono ?_
    rintro e w' ⟨F, rfl, hF, g⟩
    exact ⟨_, 15, [], none, 0, 0, rfl, Or.inl ⟨hh, rfl, rfl⟩, Or.inr ⟨F, rfl, hF, by omega, by omega⟩, ⟨none, 0, 0, 0, rfl, Nat.le_refl _, by omega, fun h => absurd h (by simp), fun j hj => absurd hj (by simp)⟩, g⟩
  | true =>
    obtain ⟨k, rfl, hs⟩ := hasS_true hh
    obtain ⟨L, hL⟩ := Option.isSome_iff_exists.1 hs
    refine (p_getS k hL W h).mono ?_
    rintro e w' ⟨ad, c, rfl, o, g⟩
    exact ⟨_, 0, L, ad, _, c, rfl, Or.inr ⟨k, rfl, hL, rfl⟩, Or.inl ⟨rfl, rfl⟩, row_own o, g⟩
end
section
variable {base q : Nat} {Z : Nat → Prop} {kd id : Int} {S : List Sl} {bv hv : Value} {xs : List Value}
theorem r_insAny {L : List UInt8} {S' : List Sl} {c : Nat} (m cap : Nat) (ad : Addr) (hm : m = L.length) (hs : InsR S L S' c) (W : World) (h : RefP base W q Z kd id S bv hv xs) (hz : ∀ k, Z k → k < W.heap.size) (hb : base ≤ W.heap.size) (hR : RowOff W (fun _ => False) (.slice (some ad) m cap) L) :
    Calls Tryd.prog 13 #[.pointer (some ⟨q, 0, none⟩), .slice (some ad) m cap] W fun e w' => e = .returned (.tuple #[.int .i64 (lfS S : Nat), .int .i64 (c : Nat)]) ∧ RefTo base W q Z kd id S' w' ∧ (c ≠ 0 → Gr W w') := by
  rcases hs with ⟨he, hc, rfl⟩ | ⟨he, rfl, rfl⟩
  · obtain ⟨k1, rfl⟩ : ∃ k1, c = k1 + 1 := ⟨c - 1, by omega⟩
    refine (r_insert_no m cap (some ad) (by rw [hm]; exact he) W h).mono ?_
    rintro e w' ⟨rfl, g⟩
    exact ⟨rfl, refTo_gr h g, fun _ => g⟩
  · exact (r_insert m cap ad hm (by rw [hm]; exact he) W h hz hb hR).mono (fun e w' h => ⟨h.1, h.2, fun h => absurd rfl h⟩)
theorem r_setAny {L : List UInt8} {S' : List Sl} {c : Nat} (n : Int) (m cap : Nat) (ad : Addr) (hm : m = L.length) (hs : SetR S L n S' c) (W : World) (h : RefP base W q Z kd id S bv hv xs) (hz : ∀ k, Z k → k < W.heap.size) (hb : base ≤ W.heap.size) (hR : RowOff W (fun _ => False) (.slice (some ad) m cap) L) :
    Calls Tryd.prog 15 #[.pointer (some ⟨q, 0, none⟩), .int .i64 n, .slice (some ad) m cap] W fun e w' => e = .returned (.int .i64 (c : Nat)) ∧ RefTo base W q Z kd id S' w' ∧ (c ≠ 0 → Gr W w') := by
  rcases hs with ⟨hh, rfl, rfl⟩ | ⟨k, rfl, hh, hs⟩
  · refine (r_set_none n (some ad) m cap hh W h).mono ?_
    rintro e w' ⟨rfl, g⟩
    exact ⟨rfl, refTo_gr h g, fun _ => g⟩
  · rcases hs with ⟨he, hc, rfl⟩ | ⟨he, rfl, rfl⟩
    · obtain ⟨k1, rfl⟩ : ∃ k1, c = k1 + 1 := ⟨c - 1, by omega⟩
      refine (r_set_no k m cap (some ad) hh (by rw [hm]; exact he) W h).mono ?_
      rintro e w' ⟨rfl, g⟩
      exact ⟨rfl, refTo_gr h g, fun _ => g⟩
    · have := r_set (L := L) k m cap ad hh hm (by rw [hm]; exact he) W h hz hb hR.1
      rw [show putS S k (some L) = S.set k (some L) by unfold putS; rw [if_neg (by have := has_lt hh; omega)]]
      exact this.mono (fun e w' h => ⟨h.1, h.2, fun h => absurd rfl h⟩)
theorem r_delAny {S' : List Sl} {c : Nat} (n : Int) (hs : DelR S n S' c) (W : World) (h : RefP base W q Z kd id S bv hv xs) (hz : ∀ k, Z k → k < W.heap.size) (hb : base ≤ W.heap.size) :
    Calls Tryd.prog 17 #[.pointer (some ⟨q, 0, none⟩), .int .i64 n] W fun e w' => e = .returned (.int .i64 (c : Nat)) ∧ RefTo base W q Z kd id S' w' ∧ (c ≠ 0 → Gr W w') := by
  rcases hs with ⟨hh, rfl, rfl⟩ | ⟨k, rfl, hh, rfl, rfl⟩
  · refine (r_del_none n hh W h).mono ?_
    rintro e w' ⟨rfl, g⟩
    exact ⟨rfl, refTo_gr h g, fun _ => g⟩
  · exact (r_del k hh W h hz hb).mono (fun e w' h => ⟨h.1, h.2, fun h => absurd rfl h⟩)
theorem r_getAny {L : List UInt8} {c : Nat} (n : Int) (hs : GetR S n L c) (W : World) (h : RefP base W q Z kd id S bv hv xs) :
    Calls Tryd.prog 19 #[.pointer (some ⟨q, 0, none⟩), .int .i64 n] W fun e w' => ∃ (ad : Option Addr) (z cp : Nat), e = .returned (.tuple #[.slice ad z cp, .int .i64 (c : Nat)]) ∧ Row w' (.slice ad z cp) L ∧ L.length ≤ 400 ∧ Gr W w' := by
  rcases hs with ⟨hh, rfl, rfl⟩ | ⟨k, rfl, hL, rfl⟩
  · refine (r_get_no n hh W h).mono ?_
    rintro e w' ⟨rfl, g⟩
    exact ⟨none, 0, 0, rfl, ⟨none, 0, 0, 0, rfl, Nat.le_refl _, by omega, fun h => absurd h (by simp), fun j hj => absurd hj (by simp)⟩, by simp, g⟩
  · refine (r_get k hL W h).mono ?_
    rintro e w' ⟨ad, c, rfl, r, l, g⟩
    exact ⟨ad, _, c, rfl, r, l, g⟩
end
end Go.Proofs.YtilijbplfobneaaDoor
