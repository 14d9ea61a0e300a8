/- fault: rows of texts that come in; errors wrapped one in the other -/
import Derived.Test.YtgmmhddlfalehaaLo
import Derived.Test.YtgmmhddlfalehaaEt
import Derived.Test.YtgmmhddlfalehaaOi
namespace Go.Proofs.Ytgmmhddlfalehaa
set_option linter.unusedVariables false
set_option linter.unusedSimpArgs false
open Go.ChangeShapes Go.WideShapes Go.ChangeAt Go.RowKit

section
variable {H : Type} {enc : TypeId × Value → H} {P : Program} {w : World} {base : Nat} {sp : Nat → Bool} {held : Bool} {r : Reach} {b0 : Nat}
theorem open_strsW {t e : TypeId} {v : Value} {d : DataW H} {ps : List MemPlace} (ht : P.underlying t = some (.slice e)) (he : P.underlying e = some .string) (ce : P.cellsOf e = 1)
    (hval : Value.okWide P w r b0 t v) (hd : DataW.Trod enc P w base sp held t v d ps) : ∃ L, Strs w v L := by
  rcases slice_oi ht hval with rfl | ⟨b, off, n, cap, rfl, h1, h2⟩
  · exact ⟨[], none, 0, 0, 0, rfl, Nat.le_refl _, by decide, fun h => absurd h (by simp), fun j hj => absurd hj (by simp)⟩
  obtain ⟨fuel, hf⟩ := hd
  rcases Deep.open_slice ht hf with ⟨h, -⟩ | ⟨a, len, cap', m, q, D, Pl, hv, -, hl, -, hm, -, hel⟩
  · simp [Value.cells] at h
  · simp only [Value.cells, List.cons.injEq, Value.slice.injEq, Option.some.injEq, and_true] at hv
    obtain ⟨rfl, rfl, rfl⟩ := hv
    have hlm : n ≤ m := by rw [hm]; split <;> omega
    have key : ∀ k, k < n → ∃ z : ByteArray, w.cell? ⟨b, off + k, none⟩ = some (.string z) := fun k hk => by
      obtain ⟨cs', hc, htr⟩ := hel k (by omega)
      rw [ce, addAt_oi, Nat.mul_one] at hc
      obtain ⟨z, rfl, -⟩ := DataW.trod_string he htr
      exact ⟨z, cells1_oi hc⟩
    refine ⟨List.ofFn fun i : Fin n => (key i.1 i.2).choose, some ⟨b, off, none⟩, cap, b, off, by simp, by simpa using h1, h2, fun _ => rfl, fun j hj => ?_⟩
    have hj' : j < n := by simpa using hj
    rw [List.getD_eq_getElem?_getD, List.getElem?_ofFn]
    simp only [hj', dif_pos, Option.getD_some]
    exact (key j hj').choose_spec
end
/-- A number, wrapped as often as is said. -/
def chE (c : Int) (L : List ByteArray) (M : List Int) : Nat → Er
  | 0 => .num c
  | i + 1 => .flt (L.getD i ⟨#[]⟩) (M.getD i 0) (chE c L M i)
def wantL (L : List ByteArray) : Nat → List ByteArray
  | 0 => []
  | i + 1 => L.getD i ⟨#[]⟩ :: wantL L i
section
variable {c : Int} {L : List ByteArray} {M : List Int}
theorem chE_nn (i : Nat) : (chE c L M i).isNil = false := by cases i <;> rfl
theorem chE_size : ∀ i, (chE c L M i).size = i + 1
  | 0 => rfl
  | i + 1 => by
    have := chE_size i
    show 1 + (chE c L M i).size = i + 1 + 1
    omega
theorem chE_deep : ∀ i, (chE c L M i).deep = i
  | 0 => rfl
  | i + 1 => by
    have := chE_deep i
    show (if (chE c L M i).isNil then 0 else 1 + (chE c L M i).deep) = i + 1
    rw [chE_nn, if_neg (by decide)]
    omega
theorem chE_first : ∀ i, firstN (chE c L M i).pre = c
  | 0 => rfl
  | i + 1 => chE_first i
theorem chE_ops : ∀ i, opsN (chE c L M i).pre = wantL L i
  | 0 => rfl
  | i + 1 => by
    show L.getD i ⟨#[]⟩ :: opsN (chE c L M i).pre = L.getD i ⟨#[]⟩ :: wantL L i
    rw [chE_ops i]
theorem wantL_len : ∀ i, (wantL L i).length = i
  | 0 => rfl
  | i + 1 => by show (wantL L i).length + 1 = i + 1; rw [wantL_len i]
end
/-- A number, or a Fault that wraps such a one, d deep. -/
def FAt (w : World) (k : Int) : Nat → Value → Prop
  | 0, v => v = .iface 30 (.int .i64 k)
  | d + 1, v => ∃ B u, v = .iface 33 (.pointer (some ⟨B, 0, none⟩)) ∧ w.cell? ⟨B, 2, none⟩ = some u ∧ FAt w k d u
theorem fAt_gr {a b : World} {k : Int} : ∀ {d : Nat} {v : Value}, FAt a k d v → Gr a b → FAt b k d v
  | 0, _, h, _ => h
  | _ + 1, _, ⟨B, u, h1, h2, h3⟩, g => ⟨B, u, h1, cell_gr g h2, fAt_gr h3 g⟩
theorem fAt_form {w : World} {k : Int} {d : Nat} {v : Value} (h : FAt w k d v) : (∃ x, v = .iface 30 x) ∨ ∃ x, v = .iface 33 x := by
  cases d with
  | zero => exact Or.inl ⟨_, h⟩
  | succ d => obtain ⟨B, u, rfl, _⟩ := h; exact Or.inr ⟨_, rfl⟩
theorem chE_fAt {w : World} {c : Int} {L : List ByteArray} {M : List Int} : ∀ {i : Nat} {v : Value}, ErT w (chE c L M i) v → FAt w c i v
  | 0, _, h => h
  | i + 1, _, h => by
    obtain ⟨F, u, rfl, c0, hk⟩ := h
    exact ⟨F, u, rfl, Hm.cell_of_heap c0 2, chE_fAt hk⟩
set_option maxHeartbeats 2000000 in
set_option maxRecDepth 100000 in
theorem c_is_fat (d : Nat) (v : Value) (i k : Int) (w : World) (h : FAt w i d v) : Calls Try.prog 32 #[v, .iface 30 (.int .i64 k), .bool true] w fun e w' => e = .returned (.bool (decide (i = k))) ∧ Gr w w' := by
  have nI := is_noIs
  have nU := is_noUnwrap
  have nV := is_noUnwraps
  have fI := isF_noIs
  have fU := isF_hasUnwrap
  have heq := is_eql i k
  have hty := fun (x : Value) => run_eql_iface_types (P := Try.prog) 33 30 x (.int .i64 k) Try.underlying28 (by decide)
  have hd : (i == k) = decide (i = k) := by rw [Bool.eq_iff_iff]; simp
  rw [hd] at heq
  generalize decide (i = k) = r at heq ⊢
  clear hd
  go_enter Try.func32, Try.ntmps32
  go_wp2_with fail
  go_loopg [0] d (fun n x wr => FAt w i n x ∧ Gr w wr)
  case atStart => exact ⟨h, by go_grown⟩
  case round =>
    obtain ⟨hx, gwr⟩ := hrel
    clear h
    cases gk with
    | zero =>
      obtain rfl := hx
      cases r
      all_goals
        go_wp2
        go_ret
        exact ⟨rfl, by have gg := gwr; have gs := gg.size; go_grown⟩
    | succ n =>
      obtain ⟨B, u, rfl, hc, hu⟩ := hx
      have hc2 := cell_gr gwr hc
      have HU := Lib.hid hu
      have hB := World.block_lt_of_cell? _ _ hc2
      clear hc
      rcases fAt_form hu with ⟨x, rfl⟩ | ⟨x, rfl⟩
      all_goals
        clear hu
        go_wp2
        go_roundg n
        case measure => omega
        case rel => exact ⟨HU.out, by have gg := gwr; have gs := gg.size; go_grown⟩
set_option maxHeartbeats 2000000 in
set_option maxRecDepth 100000 in
theorem c_Is_fat (d : Nat) (v : Value) (i k : Int) (w : World) (h : FAt w i d v) : Calls Try.prog 22 #[v, .iface 30 (.int .i64 k)] w fun e w' => e = .returned (.bool (decide (i = k))) ∧ Gr w w' := by
  have tT := is_typeOf (.int .i64 k)
  have cT := is_comparable
  generalize Try.prog.globals.size = n at tT cT
  have A1 := fun wr (g : Gr w wr) => c_is_fat d v i k wr (fAt_gr h g)
  generalize decide (i = k) = r at A1 ⊢
  rcases fAt_form h with ⟨x, rfl⟩ | ⟨x, rfl⟩
  all_goals
    have H1 := Lib.hid A1
    clear A1
    clear h
    go_enter Try.func22, Try.ntmps22
    go_wp2_with (go_at_call 32; (with_reducible refine (H1.out _ (by go_grown)).mono ?_); rintro e w1 ⟨rfl, g1⟩)
    go_ret
    exact ⟨rfl, Gr.trans (by go_grown) g1⟩
end Go.Proofs.Ytgmmhddlfalehaa
