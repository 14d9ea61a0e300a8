/- enc.Unobject -/
import Derived.Test.YtbjckoelgpbaaaaGreatDoorEu
import Derived.Test.YtbjckoelgpbaaaaGreatDoorEr
import Derived.Test.YtbjckoelgpbaaaaGreatDoorGl
import Derived.RegionTactic
import Derived.BigRegion
namespace Go.Proofs.YtbjckoelgpbaaaaGreatDoor
set_option linter.unusedVariables false
set_option linter.unusedSimpArgs false
open Go.ChangeShapes Go.WideShapes Go.ChangeAt Go.RowKit

/-! ### the points that bytes read as -/
/-- Where the i-th point begins. -/
def upA (L : List UInt8) (a : Nat) : Nat → Nat
  | 0 => a
  | i + 1 => upA L a i + (rd L (upA L a i)).2 + (rd L (upA L a i + (rd L (upA L a i)).2)).2
def upX (L : List UInt8) (a i : Nat) : Int := si (rd L (upA L a i)).1
def upY (L : List UInt8) (a i : Nat) : Int := si (rd L (upA L a i + (rd L (upA L a i)).2)).1
/-- Is one of the first n spoilt? -/
def upS (L : List UInt8) (a : Nat) (s : Bool) : Nat → Bool
  | 0 => s
  | i + 1 => (upS L a s i || decide ((rd L (upA L a i)).2 = 0)) || decide ((rd L (upA L a i + (rd L (upA L a i)).2)).2 = 0)
theorem upA_len {L : List UInt8} {a : Nat} (h : a ≤ L.length) : ∀ i, upA L a i ≤ L.length
  | 0 => h
  | i + 1 => rd_len (rd_len (upA_len h i))
theorem upS_true (L : List UInt8) (a : Nat) : ∀ n, upS L a true n = true
  | 0 => rfl
  | n + 1 => by simp only [upS, upS_true L a n, Bool.true_or]
theorem upS_mono {L : List UInt8} {a : Nat} {s : Bool} {i n : Nat} (h : upS L a s i = true) (hi : i ≤ n) : upS L a s n = true := by
  induction n with
  | zero => obtain rfl : i = 0 := by omega
            exact h
  | succ n ih =>
    by_cases e : i = n + 1
    · subst e; exact h
    · simp only [upS, ih (by omega), Bool.true_or]
/-- What the bytes of an object begin with: whether they are spoilt, the kind, how many points, where these begin. -/
def uoS1 (L : List UInt8) : Bool := nmS L 0 false 4
def uoK (L : List UInt8) : Nat := nmV L 0 false 4
def uoB (L : List UInt8) : Nat := 0 + (rd L 0).2
def uoS2 (L : List UInt8) : Bool := nmS L (uoB L) (uoS1 L) 64
def uoM (L : List UInt8) : Nat := nmV L (uoB L) (uoS1 L) 64
def uoA (L : List UInt8) : Nat := uoB L + (rd L (uoB L)).2
def uoX (L : List UInt8) : Nat → Int := upX L (uoA L)
def uoY (L : List UInt8) : Nat → Int := upY L (uoA L)
def uoE (L : List UInt8) : Nat := upA L (uoA L) (uoM L)
def uoBad (L : List UInt8) : Bool := upS L (uoA L) (uoS2 L) (uoM L) || decide (objC (uoK L) (uoM L) (uoX L) (uoY L) ≠ 0)
theorem uoB_le (L : List UInt8) : uoB L ≤ L.length := rd_len (Nat.zero_le _)
theorem uoA_le (L : List UInt8) : uoA L ≤ L.length := rd_len (uoB_le L)
theorem nmV_le (L : List UInt8) (a : Nat) (s : Bool) (lim : Nat) : nmV L a s lim ≤ lim := by
  unfold nmV nmS
  by_cases h : lim < (rd L a).1
  · rw [decide_eq_true h, Bool.or_true, if_pos rfl]; omega
  · split <;> omega
theorem si_rng {v : Nat} (h : Wd v) : -9223372036854775808 ≤ si v ∧ si v ≤ 9223372036854775807 := by
  unfold Wd at h; unfold si; split <;> omega
/-- A slice in a block that was not there. -/
def New (W : World) (v : Value) : Prop := ∀ (ad : Addr) (m c : Nat), v = .slice (some ad) m c → W.heap.size ≤ ad.block
theorem new_of_own {W w : World} {base n size : Nat} {e : TypeId} {v : Value} {xs : List Value} (h : w.ownsRow base e size v n xs) (hb : W.heap.size ≤ base) : New W v := fun ad m c e => by
  subst e
  have := (World.ownsRow.lt h ad.block rfl).1
  omega
def UoTo (W : World) (L : List UInt8) (e : Ending) (w' : World) : Prop :=
  (uoBad L = true ∧ ∃ B, e = .returned (.tuple #[.agg #[.int .i64 0, .slice none 0 0], .int .i64 0, .iface 78 (.pointer (some ⟨B, 0, none⟩))]) ∧ FaultAt w' B objectS 0 10 ∧ Gr W w') ∨
  (uoBad L = false ∧ ∃ v, e = .returned (.tuple #[.agg #[.int .i64 (uoK L : Nat), v], .int .i64 (uoE L : Nat), .nilIface]) ∧ Pts w' v (uoM L) (uoX L) (uoY L) ∧ New W v ∧ Gr W w')
theorem c_faultNew (op : ByteArray) (id k : Int) (W : World) : Calls Tryz.prog 31 #[.string op, .int .i64 id, .iface 71 (.int .i64 k)] W fun e w' => ∃ B, e = .returned (.iface 78 (.pointer (some ⟨B, 0, none⟩))) ∧ W.heap.size ≤ B ∧ FaultAt w' B op id k ∧ Gr W w' := by
  go_enter Tryz.func31, Tryz.ntmps31
  go_wp2_with fail
  go_ret
  exact ⟨_, rfl, Nat.le_refl _, ⟨by go_simp, by go_simp, by go_simp⟩, by go_grown⟩
theorem rowOwn_kx {B base e size n : Nat} {a b : World} {v : Value} {xs : List Value} (h : a.ownsRow base e size v n xs) (g : Kx (onB B) a b) (hn : ∀ k, v.ownBlock = some k → k ≠ B) : b.ownsRow base e size v n xs :=
  h.kept (row := some B) ⟨g.os, g.tape, g.output, g.size, fun k hk hne => g.block k hk (fun e => hne (by rw [e]))⟩ (by
    rcases hh : v.ownBlock with _ | k
    · exact Or.inl rfl
    · exact Or.inr (fun e => hn k hh (Option.some.inj e)))
theorem grown_frozen {a b : World} {u v : Value} (h : Grown a b u v) {p : Addr} (hp : p.block < a.heap.size) (hn : ∀ k, u.ownBlock = some k → k ≠ p.block) : b.frozen? p = a.frozen? p :=
  World.frozen?_of_block (w := a) (h.1.block p.block hp (fun e => hn p.block e.symm rfl))
theorem rdr_grown {a b : World} {B n : Nat} {v u x : Value} {s : Bool} (h : Rdr a B v n s) (g : Grown a b u x) (hn : ∀ k, u.ownBlock = some k → k ≠ B) : Rdr b B v n s := by
  have hB := World.block_lt_of_cell? _ _ h.1
  exact ⟨g.cell h.1 hn, g.cell h.2.1 hn, g.cell h.2.2.1 hn, (grown_frozen (p := ⟨B, 1, none⟩) g hB hn).trans h.2.2.2.1, (grown_frozen (p := ⟨B, 2, none⟩) g hB hn).trans h.2.2.2.2⟩
theorem rdr_set {w : World} {B n : Nat} {v u : Value} {s : Bool} {p : Addr} (h : Rdr w B v n s) (hp : p.block ≠ B) : Rdr (w.setCell p u) B v n s := by
  obtain ⟨h0, h1, h2, h3, h4⟩ := h
  have c : ∀ o, (w.setCell p u).cell? ⟨B, o, none⟩ = w.cell? ⟨B, o, none⟩ := fun o => World.cell?_of_block (w := w) (Below.heap_setCell w p u B (fun e => hp e.symm))
  have f : ∀ o, (w.setCell p u).frozen? ⟨B, o, none⟩ = w.frozen? ⟨B, o, none⟩ := fun o => World.frozen?_of_block (w := w) (Below.heap_setCell w p u B (fun e => hp e.symm))
  exact ⟨(c 0).trans h0, (c 1).trans h1, (c 2).trans h2, (f 1).trans h3, (f 2).trans h4⟩
theorem rdr_mk {w : World} {B : Nat} {v : Value} {a : Nat} {s : Bool} (h0 : w.cell? ⟨B, 0, none⟩ = some v) (h1 : w.cell? ⟨B, 1, none⟩ = some (.int .i64 a)) (h2 : w.cell? ⟨B, 2, none⟩ = some (.bool s)) (h3 : w.frozen? ⟨B, 1, none⟩ = false) (h4 : w.frozen? ⟨B, 2, none⟩ = false) : Rdr w B v a s := ⟨h0, h1, h2, h3, h4⟩
theorem faultAt_sets {w : World} {B C : Nat} {op : ByteArray} {id k : Int} {a b : Value} (h : FaultAt w B op id k) (hn : B ≠ C) : FaultAt ((w.setCell ⟨C, 0, none⟩ a).setCell ⟨C, 1, none⟩ b) B op id k := by
  have c : ∀ o, ((w.setCell ⟨C, 0, none⟩ a).setCell ⟨C, 1, none⟩ b).cell? ⟨B, o, none⟩ = w.cell? ⟨B, o, none⟩ := fun o => World.cell?_of_block (w := w) ((Below.heap_setCell _ _ _ B hn).trans (Below.heap_setCell _ _ _ B hn))
  exact ⟨(c 0).trans h.1, (c 1).trans h.2.1, (c 2).trans h.2.2⟩
theorem news2 {w : World} {B : Nat} {a b : Value} (h0 : w.cell? ⟨B, 0, none⟩ = some a) (h1 : w.cell? ⟨B, 1, none⟩ = some b) : ∀ j u, [a, b][j]? = some u → w.cell? ((⟨B, 0, none⟩ : Addr).add j) = some u := by
  intro j u hj
  have e : (⟨B, 0, none⟩ : Addr).add j = ⟨B, j, none⟩ := by unfold Addr.add; split <;> simp_all
  rw [e]
  match j, hj with
  | 0, hj => simp at hj; subst hj; exact h0
  | 1, hj => simp at hj; subst hj; exact h1
  | j + 2, hj => simp at hj
theorem ones2 (a b : Int) : ∀ u ∈ [Value.int .i64 a, .int .i64 b], u.oneCell' = true := by
  intro u hu
  simp only [List.mem_cons, List.not_mem_nil, or_false] at hu
  rcases hu with rfl | rfl <;> rfl
end Go.Proofs.YtbjckoelgpbaaaaGreatDoor
