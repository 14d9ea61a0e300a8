/- fault's law: within -/
import Derived.Test.YtgmmhddlfalehaaLac
namespace Go.Proofs.Ytgmmhddlfalehaa
set_option linter.unusedVariables false
set_option linter.unusedSimpArgs false
open Go.ChangeShapes Go.WideShapes Go.ChangeAt Go.RowKit

/-- A row of Nodes of kind q: its cells. -/
def WiX (q : Int) : List (Int × ByteArray) → List Value → Prop
  | [], xs => xs = []
  | (N, op) :: l, xs => ∃ (c3 : Value) (ys : List Value), xs = .int .i64 q :: .int .i64 N :: .string op :: c3 :: ys ∧ c3.oneCell' = true ∧ WiX q l ys
theorem wiX_app {q : Int} : ∀ {l l' : List (Int × ByteArray)} {xs ys : List Value}, WiX q l xs → WiX q l' ys → WiX q (l ++ l') (xs ++ ys)
  | [], _, _, _, h, h' => by
    obtain rfl := h
    exact h'
  | (N, op) :: l, _, _, _, h, h' => by
    obtain ⟨c3, zs, rfl, h1, h2⟩ := h
    exact ⟨c3, _, rfl, h1, wiX_app h2 h'⟩
theorem wiX_one {q : Int} : ∀ {l : List (Int × ByteArray)} {xs : List Value}, WiX q l xs → ∀ u ∈ xs, u.oneCell' = true
  | [], _, h, u, hu => by obtain rfl := h; cases hu
  | (N, op) :: l, _, h, u, hu => by
    obtain ⟨c3, zs, rfl, h1, h2⟩ := h
    simp only [List.mem_cons] at hu
    rcases hu with rfl | rfl | rfl | rfl | hu
    · rfl
    · rfl
    · rfl
    · exact h1
    · exact wiX_one h2 u hu
theorem wiX_get {q : Int} : ∀ {l : List (Int × ByteArray)} {xs : List Value}, WiX q l xs → ∀ j, j < l.length → xs[j * 4 + 1]? = some (.int .i64 (l.getD j (0, ⟨#[]⟩)).1) ∧ xs[j * 4 + 2]? = some (.string (l.getD j (0, ⟨#[]⟩)).2)
  | [], _, h, j, hj => absurd hj (Nat.not_lt_zero _)
  | (N, op) :: l, _, h, 0, hj => by
    obtain ⟨c3, zs, rfl, h1, h2⟩ := h
    exact ⟨rfl, rfl⟩
  | (N, op) :: l, _, h, j + 1, hj => by
    obtain ⟨c3, zs, rfl, h1, h2⟩ := h
    have ih := wiX_get h2 j (by simpa using hj)
    rw [show (j + 1) * 4 + 1 = (j * 4 + 1) + 1 + 1 + 1 + 1 by omega, show (j + 1) * 4 + 2 = (j * 4 + 2) + 1 + 1 + 1 + 1 by omega]
    exact ih
theorem catW_len {α : Type} {f : Nat → List α} {g : Nat → Nat} : ∀ n, (∀ i, i < n → (f i).length ≤ g i) → (catW f n).length ≤ erSum g n
  | 0, _ => Nat.le_refl _
  | n + 1, h => by
    have a := catW_len n (fun i hi => h i (by omega))
    have b := h n (by omega)
    show (catW f n ++ f n).length ≤ erSum g n + g n
    rw [List.length_append]
    omega
theorem erSum_mono (f : Nat → Nat) (i : Nat) : ∀ n, i ≤ n → erSum f i ≤ erSum f n
  | 0, h => by obtain rfl : i = 0 := by omega
               exact Nat.le_refl _
  | n + 1, h => by
    by_cases e : i = n + 1
    · rw [e]; exact Nat.le_refl _
    · have := erSum_mono f i n (by omega)
      show erSum f i ≤ erSum f n + f n
      omega
theorem wi_len (q : Int) : ∀ T : Nd, (T.wi q).length ≤ T.cnt := by
  intro T
  induction T with
  | nil => exact Nat.le_refl _
  | mk k N op n kids ih =>
    show ((if k = q then [(N, op)] else []) ++ (if k = 2 ∨ k = 6 then (if 0 < n then (kids 0).wi q else []) else if k = 3 then catW (fun i => (kids i).wi q) n else [])).length ≤ 1 + erSum (fun i => (kids i).cnt) n
    rw [List.length_append]
    have h1 : (if k = q then [(N, op)] else []).length ≤ 1 := by split <;> simp
    have h2 : (if k = 2 ∨ k = 6 then (if 0 < n then (kids 0).wi q else []) else if k = 3 then catW (fun i => (kids i).wi q) n else []).length ≤ erSum (fun i => (kids i).cnt) n := by
      split
      · split
        · rename_i hn
          have b : (kids 0).cnt ≤ erSum (fun i => (kids i).cnt) n := erSum_le (fun i => (kids i).cnt) n 0 hn
          exact Nat.le_trans (ih 0) b
        · exact Nat.zero_le _
      · split
        · exact catW_len n (fun i _ => ih i)
        · exact Nat.zero_le _
    omega
section
variable {P : Program}
theorem wpList_append_rowN {w : World} {ops : Array Oper} {rest : List Oper} {o : Oper} {a : Act} {Q : Exit → Act → World → Prop} (hgd : o.guard = none) (s x : Operand) (t : TypeId)
    (ho : o.op = .call { callee := .builtin .append, args := #[s, x], argTypes := #[t, t] })
    (base : Nat) (e : TypeId) (i : TypeInfo) (z : Value) (size bytes : Nat) (ht : P.underlying t = some (.slice e)) (hi : P.info? e = some i) (hz : i.zero = some z)
    (hsize : i.size = size) (hby : i.bytes = bytes) (hzs : z.cells.size = size) (hsz : 0 < size)
    (v : Value) (n : Nat) (xs : List Value) (hs : a.eval s = v) (hown : w.ownsRow base e size v n xs)
    (r : Value) (b2 m : Nat) (news : List Value) (hx : a.eval x = r) (hr : w.ownsRow b2 e size r m news) (h1 : ∀ u ∈ news, u.oneCell' = true)
    (h63 : n + m ≤ maxLen) (hbytes : (n + m) * bytes ≤ 140737488355328) (hbase : base ≤ w.heap.size)
    (h : ∀ v' w', w'.ownsRow base e size v' (n + m) (xs ++ news) → Grown w w' v v' → wpList P ops Q rest (a.put o.dst v') w') : wpList P ops Q (o :: rest) a w := by
  have hl := hr.1
  have hr0 := hr
  rcases hr.2 with ⟨rfl, rfl⟩ | ⟨g, cap, cur, rfl, -⟩
  · obtain rfl : news = [] := List.eq_nil_of_length_eq_zero (by omega)
    refine wpList_plain hgd fun K hK => ?_
    unfold Oper.wp execOp
    simp only [ho, resolve, invoke, builtin, Sem.run_bind, Sem.run_pure, Result.andThen_ok, List.map_toArray, List.map_cons, List.map_nil, hs, hx, run_append_nothing (P := P) (ty := o.type) ht hi hown]
    exact hK _ _ (h v w (by simpa using hown) (Grown.refl w v))
  · exact wpList_append_own2 w hgd s x t ho base e i z size bytes ht hi hz hsize hby hzs hsz v n xs hs hown ⟨g, 0, none⟩ m cap news hx hl (World.ownsRow.cells hr0 rfl) h1 h63 hbytes hbase h
end
end Go.Proofs.Ytgmmhddlfalehaa
