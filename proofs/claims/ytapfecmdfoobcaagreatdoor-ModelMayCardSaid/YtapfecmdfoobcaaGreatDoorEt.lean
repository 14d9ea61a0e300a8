/- a row of bytes of any place is appended to an own one -/
import Derived.Test.YtapfecmdfoobcaaGreatDoorEa
import Derived.OwnWalk
namespace Go.Proofs.YtapfecmdfoobcaaGreatDoor
set_option linter.unusedVariables false
set_option linter.unusedSimpArgs false
open Go.ChangeShapes Go.WideShapes Go.ChangeAt Go.RowKit

section
variable {P : Program}
/-- To append nothing. -/
theorem run_append_nothing {w : World} {base : Nat} {t ty e : TypeId} {i : TypeInfo} {size n c : Nat} {v : Value} {xs : List Value} (ht : P.underlying t = some (.slice e)) (hi : P.info? e = some i)
    (hown : w.ownsRow base e size v n xs) : (Builtin.append_ #[t, t] ty #[v, .slice none 0 c]).run P w = .ok v w := by
  rcases hown.2 with ⟨rfl, rfl⟩ | ⟨g, cap, cur, rfl, hbg, hg, hnc, hcm, hcs, htake⟩
  · simp [Builtin.append_, run_underlying ht, sizeOf, typeInfo, hi, Builtin.lenOf, Builtin.firstCells]
  · simp [Builtin.append_, run_underlying ht, sizeOf, typeInfo, hi, Builtin.lenOf, Builtin.firstCells, hnc, storeCells]
/-- A row of any place behind an own one. -/
theorem wpList_append_row {w : World} {ops : Array Oper} {rest : List Oper} {o : Oper} {a : Act} {Q : Exit → Act → World → Prop} (hgd : o.guard = none) (s x : Operand) (t : TypeId)
    (ho : o.op = .call { callee := .builtin .append, args := #[s, x], argTypes := #[t, t] })
    (base : Nat) (e : TypeId) (i : TypeInfo) (z : Value) (bytes : Nat) (ht : P.underlying t = some (.slice e)) (hi : P.info? e = some i) (hz : i.zero = some z)
    (hsize : i.size = 1) (hby : i.bytes = bytes) (hzs : z.cells.size = 1)
    (v : Value) (n : Nat) (xs : List Value) (hs : a.eval s = v) (hown : w.ownsRow base e 1 v n xs)
    (ad : Option Addr) (m c B off : Nat) (news : List Value) (hx : a.eval x = .slice ad m c) (hA : 0 < m → ad = some ⟨B, off, none⟩) (hl : news.length = m) (hnews : ∀ j u, news[j]? = some u → w.cell? ⟨B, off + j, none⟩ = some u) (h1 : ∀ u ∈ news, u.oneCell' = true)
    (h63 : n + m ≤ maxLen) (hbytes : (n + m) * bytes ≤ 140737488355328) (hbase : base ≤ w.heap.size)
    (h : ∀ v' w', w'.ownsRow base e 1 v' (n + m) (xs ++ news) → Grown w w' v v' → wpList P ops Q rest (a.put o.dst v') w') : wpList P ops Q (o :: rest) a w := by
  match ad, hA, hx with
  | some ad, hA, hx =>
    refine wpList_append_own2 w hgd s x t ho base e i z 1 bytes ht hi hz hsize hby hzs (by decide) v n xs hs hown ad m c news hx (by omega) (fun j u hu => ?_) h1 h63 hbytes hbase h
    have hj : j < news.length := (List.getElem?_eq_some_iff.1 hu).1
    obtain rfl := Option.some.inj (hA (by omega))
    have := hnews j u hu
    rw [show (⟨B, off, none⟩ : Addr).add j = ⟨B, off + j, none⟩ from by unfold Addr.add; split <;> simp_all]
    exact this
  | none, hA, hx =>
    have hm : m = 0 := Nat.eq_zero_of_not_pos fun h => by have := hA h; simp at this
    subst hm
    obtain rfl := List.eq_nil_of_length_eq_zero hl
    refine wpList_plain hgd fun K hK => ?_
    unfold Oper.wp execOp
    simp only [ho, resolve, invoke, builtin, Sem.run_bind, Sem.run_pure, Result.andThen_ok, List.map_toArray, List.map_cons, List.map_nil, hs, hx, run_append_nothing (P := P) (ty := o.type) ht hi hown]
    exact hK _ _ (h v w (by simpa using hown) (Grown.refl w v))
end
theorem wpList_app {w : World} {ops : Array Oper} {rest : List Oper} {o : Oper} {a : Act} {Q : Exit → Act → World → Prop} (hgd : o.guard = none) (s x : Operand)
    (ho : o.op = .call { callee := .builtin .append, args := #[s, x], argTypes := #[69, 69] })
    (base : Nat) (v u : Value) (L M : List UInt8) (hs : a.eval s = v) (hO : Own w base v L) (hx : a.eval x = u) (hR : Row w u M) (hl : L.length + M.length ≤ 1000000000) (hb : base ≤ w.heap.size)
    (h : ∀ v' w', Own w' base v' (L ++ M) → Grown w w' v v' → wpList Tryz.prog ops Q rest (a.put o.dst v') w') : wpList Tryz.prog ops Q (o :: rest) a w := by
  obtain ⟨i0, hi0, hz0, hz1, hz2⟩ := info_parts (P := Tryz.prog) (e := 5) (z := .int .u8 0) (size := 1) (bytes := 1) (by kernel_rfl)
  obtain ⟨ad, cap, B, off, rfl, h1, h2, h3, h4⟩ := hR
  have hnews : ∀ j u, (M.map bv)[j]? = some u → w.cell? ⟨B, off + j, none⟩ = some u := fun j u hu => by
    rw [List.getElem?_map] at hu
    obtain ⟨c, hc, rfl⟩ := Option.map_eq_some_iff.1 hu
    obtain ⟨hj, rfl⟩ := List.getElem?_eq_some_iff.1 hc
    exact h4 j hj
  refine wpList_append_row hgd s x 69 ho base 5 i0 (.int .u8 0) 1 Tryz.underlying69 hi0 hz0 hz1 hz2 rfl v L.length (L.map bv) hs hO ad M.length cap B off (M.map bv) hx h3 (by rw [List.length_map]) hnews (bv_one M) (by unfold maxLen; omega) (by omega) hb ?_
  intro v' w' o' g'
  refine h v' w' ?_ g'
  unfold Own
  rw [List.length_append, List.map_append]
  exact o'
end Go.Proofs.YtapfecmdfoobcaaGreatDoor
