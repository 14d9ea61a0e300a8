/- a set of pointers, as a map has it -/
import Derived.Test.YtgmmhddlfalehaaLd
import Derived.LaidEqlPtr
import Derived.Maps.OwnSet
import Derived.Maps.OwnOps
namespace Go.Proofs.Ytgmmhddlfalehaa
set_option linter.unusedVariables false
set_option linter.unusedSimpArgs false
open Go.ChangeShapes Go.WideShapes Go.ChangeAt Go.RowKit

abbrev ptrV (F : Nat) : Value := .pointer (some ⟨F, 0, none⟩)
/-- A Fault's block. -/
def FltB (w : World) (F : Nat) : Prop := ∃ cur, w.heap[F]? = some (.cells cur 37 (0, 0))
/-- A set of Faults. -/
def PSet (w : World) (m : Nat) (S : List Nat) : Prop := ∃ (es : Array MapEntry) (clock : Nat), w.heap[m]? = some (.map es clock) ∧ es.toList.map (fun e => (e.key, e.val)) = S.map (fun F => (ptrV F, Value.agg #[]))
theorem infoF : ∃ j, Try.prog.info? 37 = some j ∧ j.size = 3 := by
  obtain ⟨j, h1, -, h3, -⟩ := info_parts (P := Try.prog) (e := 37) (z := .agg #[.string ⟨#[]⟩, .int .i64 0, .nilIface]) (size := 3) (bytes := 40) (by kernel_rfl)
  exact ⟨j, h1, h3⟩
theorem run_eqP {F G : Nat} (w : World) (hF : FltB w F) (hG : FltB w G) : (Op.equal 33 (ptrV F) (ptrV G)).run Try.prog w = .ok (F == G) w := by
  obtain ⟨j, hj, hs⟩ := infoF
  by_cases e : F = G
  · subst e
    have h : ∀ d : Nat, (Op.equalIn (d + 1) 33 (ptrV F) (ptrV F)).run Try.prog w = .ok true w := fun d => by
      simp [Op.equalIn, ptrV, run_underlying Try.underlying33, sizeOf, typeInfo, hj, run_sameAddr_same]
    rw [show (F == F) = true by simp]
    exact h 9999
  · obtain ⟨cF, hF⟩ := hF
    obtain ⟨cG, hG⟩ := hG
    have hne : (⟨F, 0, none⟩ : Addr) ≠ ⟨G, 0, none⟩ := fun h => e (Addr.mk.inj h).1
    have h : ∀ d : Nat, (Op.equalIn (d + 1) 33 (ptrV F) (ptrV G)).run Try.prog w = .ok false w := fun d => by
      simp [Op.equalIn, ptrV, run_underlying Try.underlying33, sizeOf, typeInfo, hj, hs, run_sameAddr_other w hne hF hG]
    rw [show (F == G) = false by simpa using e]
    exact h 9999
theorem run_findP {F : Nat} (w : World) (hF : FltB w F) : ∀ (S : List Nat) (es : List MapEntry) (i : Nat), es.map (fun e => (e.key, e.val)) = S.map (fun F => (ptrV F, Value.agg #[])) → (∀ G ∈ S, FltB w G) →
    (Instr.findAsking 33 (ptrV F) es i).run Try.prog w = .ok (if F ∈ S then some (i + S.idxOf F, .agg #[]) else none) w
  | [], es, i, h, _ => by
    obtain rfl : es = [] := List.map_eq_nil_iff.1 h
    rfl
  | G :: S, es, i, h, hG => by
    match es, h with
    | e :: es, h =>
      simp only [List.map_cons, List.cons.injEq, Prod.mk.injEq] at h
      obtain ⟨⟨hk, hv⟩, hr⟩ := h
      have ih := run_findP w hF S es (i + 1) hr (fun G h => hG G (List.mem_cons_of_mem _ h))
      have he := run_eqP w hF (hG G List.mem_cons_self)
      unfold Instr.findAsking
      rw [Sem.run_bind, hk, he, Result.andThen_ok]
      by_cases e' : F = G
      · subst e'
        rw [if_pos List.mem_cons_self, hv]
        simp
      · have hb : (F == G) = false := by simpa using e'
        have hb2 : (G == F) = false := by simpa using (fun h => e' h.symm)
        rw [hb]
        simp only [Bool.false_eq_true, if_false]
        rw [ih]
        by_cases hm : F ∈ S
        · rw [if_pos hm, if_pos (List.mem_cons_of_mem _ hm), List.idxOf_cons, hb2]
          simp only [cond_false]
          rw [show i + 1 + List.idxOf F S = i + (List.idxOf F S + 1) by omega]
        · rw [if_neg hm, if_neg (by intro h; rcases List.mem_cons.1 h with h | h; exact e' h; exact hm h)]
theorem run_findKeyP {F : Nat} (w : World) (hF : FltB w F) (S : List Nat) (es : List MapEntry) (h : es.map (fun e => (e.key, e.val)) = S.map (fun F => (ptrV F, Value.agg #[]))) (hG : ∀ G ∈ S, FltB w G) :
    (Instr.findKey 33 (ptrV F) es).run Try.prog w = .ok (if F ∈ S then some (S.idxOf F, .agg #[]) else none) w := by
  have hn : Instr.findNow (.pointer 37) (ptrV F) es 0 = if es = [] then some none else none := by
    cases es with
    | nil => rfl
    | cons e es => rfl
  unfold Instr.findKey
  rw [Sem.run_bind, run_underlying Try.underlying33, Result.andThen_ok]
  rw [hn]
  by_cases e : es = []
  · subst e
    obtain rfl : S = [] := by simpa using h.symm
    rw [if_pos rfl]
    rfl
  · rw [if_neg e]
    have := run_findP w hF S es 0 h hG
    rw [Nat.zero_add] at this
    exact this
theorem run_checkP (b : Bool) (F : Nat) (w : World) : (Instr.checkKey b 10000 33 (ptrV F)).run Try.prog w = .ok () w := by
  unfold Instr.checkKey
  rw [Sem.run_bind, run_underlying Try.underlying33, Result.andThen_ok]
  rfl
theorem map_erase {α β : Type} (f : α → β) : ∀ (l : List α) (i : Nat), (l.eraseIdx i).map f = (l.map f).eraseIdx i
  | [], _ => rfl
  | _ :: _, 0 => rfl
  | x :: l, i + 1 => by show f x :: (l.eraseIdx i).map f = f x :: (l.map f).eraseIdx i; rw [map_erase f l i]
/-- 'm[k]', the second value too. -/
theorem run_lookP {F m : Nat} {S : List Nat} (w : World) (h : PSet w m S) (hF : FltB w F) (hG : ∀ G ∈ S, FltB w G) :
    (Instr.lookup 75 (.map (some m)) (ptrV F) true).run Try.prog w = .ok (.tuple #[.agg #[], .bool (decide (F ∈ S))]) w := by
  obtain ⟨es, clock, hb, hes⟩ := h
  have hf := run_findKeyP w hF S es.toList hes hG
  have hz : (zeroValue 79).run Try.prog w = .ok (.agg #[]) w := by kernel_rfl
  simp only [Instr.lookup, Sem.run_bind, run_underlying Try.underlying75, Result.andThen_ok, MapKept.run_getObj_map hb, Sem.run_pure, run_checkP, hf]
  by_cases e : F ∈ S
  · simp [e]
  · simp [e, hz]
theorem run_putP {F m : Nat} {S : List Nat} (w : World) (h : PSet w m S) (hF : FltB w F) (hG : ∀ G ∈ S, FltB w G) (hn : F ∉ S) :
    ∃ w', (Instr.mapUpdate 75 (.map (some m)) (ptrV F) (.agg #[])).run Try.prog w = .ok () w' ∧ PSet w' m (S ++ [F]) ∧ Kx (fun k => k = m) w w' := by
  obtain ⟨es, clock, hb, hes⟩ := h
  have hf := run_findKeyP w hF S es.toList hes hG
  rw [if_neg hn] at hf
  have hw := MapKept.heap_set (o' := Obj.map (es.push { key := ptrV F, val := .agg #[], born := clock }) (clock + 1)) hb
  refine ⟨{ w with heap := w.heap.setIfInBounds m (.map (es.push { key := ptrV F, val := .agg #[], born := clock }) (clock + 1)) }, ?_, ⟨_, _, hw.1, ?_⟩, ⟨rfl, rfl, rfl, by simp, fun j hj hs => hw.2 j hs⟩⟩
  · simp only [Instr.mapUpdate, Sem.run_bind, run_underlying Try.underlying75, Result.andThen_ok, MapKept.run_getObj_map hb, Sem.run_pure, run_checkP, hf, MapKept.run_setObj_map _ hb]
  · rw [Array.toList_push, List.map_append, List.map_append, hes]
    rfl
theorem run_delP {F m : Nat} {S : List Nat} {ty : TypeId} (w : World) (h : PSet w m (S ++ [F])) (hG : ∀ G ∈ S ++ [F], FltB w G) (hn : F ∉ S) :
    ∃ w', (Builtin.delete_ #[75, 33] ty #[.map (some m), ptrV F]).run Try.prog w = .ok (.tuple #[]) w' ∧ PSet w' m S ∧ Kx (fun k => k = m) w w' := by
  obtain ⟨es, clock, hb, hes⟩ := h
  have hm : F ∈ S ++ [F] := by simp
  have hf := run_findKeyP w (hG F hm) (S ++ [F]) es.toList hes hG
  rw [if_pos hm] at hf
  have hi : (S ++ [F]).idxOf F = S.length := by
    rw [List.idxOf_append, if_neg hn, List.idxOf_cons]
    simp
  rw [hi] at hf
  have hlen : es.toList.length = S.length + 1 := by
    have := congrArg List.length hes
    simpa using this
  have hw := MapKept.heap_set (o' := Obj.map (es.eraseIdxIfInBounds S.length) clock) hb
  refine ⟨{ w with heap := w.heap.setIfInBounds m (.map (es.eraseIdxIfInBounds S.length) clock) }, ?_, ⟨_, _, hw.1, ?_⟩, ⟨rfl, rfl, rfl, by simp, fun j hj hs => hw.2 j hs⟩⟩
  · simp [Builtin.delete_, run_underlying Try.underlying75, MapKept.run_getObj_map hb, run_checkP, hf, MapKept.run_setObj_map _ hb, Result.andThen]
  · have e1 : (es.eraseIdxIfInBounds S.length).toList = es.toList.eraseIdx S.length := by simp
    rw [e1, map_erase, hes, List.map_append, List.map_cons, List.map_nil, List.eraseIdx_append_of_length_le (by simp)]
    simp
end Go.Proofs.Ytgmmhddlfalehaa
