/- DiskPlays: the program's disk: each call, whatever it answers -/
import Derived.Test.YtkbdhhmkdjajgaaDoorNe
import Derived.Test.YtkbdhhmkdjajgaaDoorDt
import Derived.Test.YtkbdhhmkdjajgaaDoorSl
import Derived.Test.YtkbdhhmkdjajgaaDoorDz
namespace Go.Proofs.YtkbdhhmkdjajgaaDoor
set_option linter.unusedVariables false
set_option linter.unusedSimpArgs false
open Go.ChangeShapes Go.WideShapes Go.ChangeAt Go.RowKit Go.Maps

/-- An error by its number, of op and place; 0 is none. -/
def UE (w : World) (op : ByteArray) (u : Value) (id : Int) (c : Nat) : Prop := (u = .nilIface ∧ c = 0) ∨ ∃ F, u = .iface 64 (.pointer (some ⟨F, 0, none⟩)) ∧ FaultAt w F op id c ∧ 1 ≤ c ∧ c ≤ 15
theorem uE_nil (w : World) (op : ByteArray) (id : Int) : UE w op .nilIface id 0 := Or.inl ⟨rfl, rfl⟩
theorem uE_hit {w : World} {op : ByteArray} {id : Int} {F : Nat} (c : Nat) (hc : 1 ≤ c ∧ c ≤ 15) (h : FaultAt w F op id c) : UE w op (.iface 64 (.pointer (some ⟨F, 0, none⟩))) id c := Or.inr ⟨F, rfl, h, hc⟩
theorem c_IsUE {op : ByteArray} {u : Value} {id : Int} {c : Nat} (W : World) (hE : ErrT W) (h : UE W op u id c) : Calls Tryd.prog 8 #[u, .int .i64 (c : Nat), .string op, .int .i64 id] W fun e w' => e = .returned (.bool true) ∧ Gr W w' := by
  rcases h with ⟨rfl, rfl⟩ | ⟨F, rfl, hF, h1, h2⟩
  · exact c_AlIs_nil op id W
  · exact c_AlIs_hit F op id c ⟨h1, h2⟩ W hE hF
theorem uE_gr {a b : World} {op : ByteArray} {u : Value} {id : Int} {c : Nat} (h : UE a op u id c) (g : Gr a b) : UE b op u id c := by
  rcases h with h | ⟨F, rfl, hF, h1⟩
  · exact Or.inl h
  · exact Or.inr ⟨F, rfl, ⟨cell_gr g hF.1, cell_gr g hF.2.1, cell_gr g hF.2.2⟩, h1⟩
/-- What a write does. -/
def WrR (d : Dk) (z : Int) (L : List UInt8) (d' : Dk) (c : Nat) : Prop :=
  ((z < 0 ∨ (d.n : Int) ≤ z) ∧ c = 2 ∧ d' = d) ∨ ∃ k : Nat, z = k ∧ k < d.n ∧ ((L.length ≠ 64 ∧ c = 1 ∧ d' = d) ∨ (L.length = 64 ∧ ((¬ d.on ∧ c = 9 ∧ d' = d.opx) ∨ (d.on ∧ c = 0 ∧ d' = d.opd.wr k L))))
def SyR (d d' : Dk) (c : Nat) : Prop := (¬ d.on ∧ c = 9 ∧ d' = d.opx) ∨ (d.on ∧ c = 0 ∧ ∃ G, (∀ k, k < d.n → sec G k = d.read k) ∧ d' = { d.opd with good := G, ord := [] })
def RdR (d : Dk) (z : Int) (L : List UInt8) (c : Nat) : Prop := ((z < 0 ∨ (d.n : Int) ≤ z) ∧ c = 2 ∧ L = []) ∨ ∃ k : Nat, z = k ∧ k < d.n ∧ c = 0 ∧ L = d.read k
theorem wrR_ops {d d' : Dk} {z : Int} {L : List UInt8} {c : Nat} (h : WrR d z L d' c) : d'.ops ≤ d.ops + 1 := by
  rcases h with ⟨-, -, rfl⟩ | ⟨k, -, -, ⟨-, -, rfl⟩ | ⟨-, ⟨-, -, rfl⟩ | ⟨-, -, rfl⟩⟩⟩
  · omega
  · omega
  · exact Nat.le_refl _
  · exact Nat.le_refl _
theorem syR_ops {d d' : Dk} {c : Nat} (h : SyR d d' c) : d'.ops ≤ d.ops + 1 := by
  rcases h with ⟨-, -, rfl⟩ | ⟨-, -, G, -, rfl⟩
  · exact Nat.le_refl _
  · exact Nat.le_refl _
section
variable {p g bm : Nat} {M : Option Nat} {d : Dk}
/-- What a call leaves of the program's disk. -/
def DTo (W : World) (p g bm : Nat) (M : Option Nat) (d' : Dk) (w' : World) : Prop :=
  ∃ M', DiskS w' p g bm M' d' ∧ (M' = M ∨ ∃ j, M' = some j ∧ W.heap.size ≤ j) ∧ Kx (fun j => dkZ p g bm M j ∨ W.heap.size ≤ j) W w'
theorem dTo_gr {W w' : World} (H : DiskS W p g bm M d) (G : Gr W w') : DTo W p g bm M d w' := ⟨M, diskS_gr H G, Or.inl rfl, Kx.of_gr G⟩
theorem dTo_p {W w' : World} {d' : Dk} (h : DiskS w' p g bm M d') (K : Kx (fun j => j = p) W w') : DTo W p g bm M d' w' := ⟨M, h, Or.inl rfl, K.mono (fun j h => Or.inl (Or.inl h))⟩
theorem d_writeAny (z : Int) {L : List UInt8} (m : Nat) (hm : m = L.length) (hn : d.ops < 1000000) (ad : Option Addr) (cp : Nat) (W : World) (H : DiskS W p g bm M d) (hR : RowOff W (dkZ p g bm M) (.slice ad m cp) L) :
    Calls Tryd.prog 11 #[.pointer (some ⟨p, 0, none⟩), .int .i64 z, .slice ad m cp] W fun e w' => ∃ u c d', e = .returned u ∧ WrR d z L d' c ∧ UE w' writeS u z c ∧ DTo W p g bm M d' w' := by
  by_cases h0 : z < 0
  · refine (d_write_neg z h0 _ W H).mono ?_
    rintro e w' ⟨F, rfl, hF, G⟩
    exact ⟨_, 2, d, rfl, Or.inl ⟨Or.inl h0, rfl, rfl⟩, uE_hit 2 (by decide) hF, dTo_gr H G⟩
  · by_cases h1 : (d.n : Int) ≤ z
    · refine (d_write_no z h1 _ W H).mono ?_
      rintro e w' ⟨F, rfl, hF, G⟩
      exact ⟨_, 2, d, rfl, Or.inl ⟨Or.inr h1, rfl, rfl⟩, uE_hit 2 (by decide) hF, dTo_gr H G⟩
    · obtain ⟨k, rfl⟩ : ∃ k : Nat, z = k := ⟨z.toNat, by omega⟩
      have hk : k < d.n := by omega
      by_cases h64 : m = 64
      · subst h64
        by_cases ho : d.on
        · refine (d_write k hk ho hn hm.symm ad cp W H hR).mono ?_
          rintro e w' ⟨rfl, M', h3, h4, h5⟩
          refine ⟨_, 0, _, rfl, Or.inr ⟨k, rfl, hk, Or.inr ⟨hm.symm, Or.inr ⟨ho, rfl, rfl⟩⟩⟩, uE_nil _ _ _, M', h3, h4, h5.mono (fun j hj => ?_)⟩
          rcases hj with h | h | h | h
          · exact Or.inl (Or.inl h)
          · exact Or.inl (Or.inr (Or.inr (Or.inr h)))
          · exact Or.inl (Or.inr (Or.inr (Or.inl h)))
          · exact Or.inr h
        · refine (d_write_off k hk ho hn ad cp W H).mono ?_
          rintro e w' ⟨F, rfl, hF, h3, h4⟩
          exact ⟨_, 9, _, rfl, Or.inr ⟨k, rfl, hk, Or.inr ⟨hm.symm, Or.inl ⟨ho, rfl, rfl⟩⟩⟩, uE_hit 9 (by decide) hF, dTo_p h3 h4⟩
      · refine (d_write_len k hk ad m cp h64 W H).mono ?_
        rintro e w' ⟨F, rfl, hF, G⟩
        exact ⟨_, 1, d, rfl, Or.inr ⟨k, rfl, hk, Or.inl ⟨by rw [← hm]; exact h64, rfl, rfl⟩⟩, uE_hit 1 (by decide) hF, dTo_gr H G⟩
theorem d_syncAny (hn : d.ops < 1000000) (W : World) (H : DiskS W p g bm M d) :
    Calls Tryd.prog 13 #[.pointer (some ⟨p, 0, none⟩)] W fun e w' => ∃ u c d', e = .returned u ∧ SyR d d' c ∧ UE w' syncS u 0 c ∧ DTo W p g bm M d' w' := by
  by_cases ho : d.on
  · refine (d_sync ho hn W H).mono ?_
    rintro e w' ⟨rfl, ⟨G, h1, h2⟩, h3⟩
    exact ⟨_, 0, _, rfl, Or.inr ⟨ho, rfl, G, h1, rfl⟩, uE_nil _ _ _, M, h2, Or.inl rfl, h3⟩
  · refine (d_sync_off ho hn W H).mono ?_
    rintro e w' ⟨F, rfl, hF, h3, h4⟩
    exact ⟨_, 9, _, rfl, Or.inl ⟨ho, rfl, rfl⟩, uE_hit 9 (by decide) hF, dTo_p h3 h4⟩
theorem d_readAny (z : Int) (W : World) (H : DiskS W p g bm M d) :
    Calls Tryd.prog 15 #[.pointer (some ⟨p, 0, none⟩), .int .i64 z] W fun e w' => ∃ u c L ad m cp, e = .returned (.tuple #[.slice ad m cp, u]) ∧ RdR d z L c ∧ UE w' readS u z c ∧ Row w' (.slice ad m cp) L ∧ L.length ≤ 64 ∧ Gr W w' := by
  by_cases h : z < 0 ∨ (d.n : Int) ≤ z
  · refine (d_read_no z h W H).mono ?_
    rintro e w' ⟨F, rfl, hF, G⟩
    exact ⟨_, 2, [], _, _, _, rfl, Or.inl ⟨h, rfl, rfl⟩, uE_hit 2 (by decide) hF, row_own (own_nil _ 0), by simp, G⟩
  · obtain ⟨k, rfl⟩ : ∃ k : Nat, z = k := ⟨z.toNat, by omega⟩
    have hk : k < d.n := by omega
    have hl := read_len H.ok hk
    refine (d_read k hk W H).mono ?_
    rintro e w' ⟨ad, c, rfl, o, G⟩
    exact ⟨_, 0, d.read k, _, _, _, rfl, Or.inr ⟨k, rfl, hk, rfl, rfl⟩, uE_nil _ _ _, row_own o, by omega, G⟩
/-- Blocks of other types change: the disk stays. -/
theorem diskS_oth {a b : World} {S : Nat → Prop} (H : DiskS a p g bm M d) (K : Kx S a b) (hS : OthS a S) (hd : ∀ k, S k → ¬ dkZ p g bm M k) : DiskS b p g bm M d := by
  have hz := diskS_zlt H
  obtain ⟨h1, ⟨cap, ov, h2, h3, h4, h5⟩, ⟨D, hD, hsz, hW⟩, h7⟩ := H
  refine ⟨h1, ⟨cap, ov, diskAt_kx h2 K (fun h => hd _ h (Or.inl rfl)), rowOwn_kxS h3 K (fun j hj h => ?_), rowOwn_kxS h4 K (fun j hj h => hd j h (Or.inr (Or.inr (Or.inr (by rw [← h5]; exact hj))))), h5⟩, ⟨D, ownsMap_kx hD K (fun h => hd _ h (Or.inr (Or.inr (Or.inl rfl)))), hsz, fun k hk => ⟨(hW k hk).1, fun hin => ?_⟩⟩, h7⟩
  · obtain rfl : g = j := by simpa [Value.ownBlock] using hj
    exact hd _ h (Or.inr (Or.inl rfl))
  · obtain ⟨e1, v, e2, e3⟩ := (hW k hk).2 hin
    exact ⟨e1, v, e2, rowOff_oth e3 K hS⟩
/-- A disk beside an old one, whose rows it has too. -/
theorem diskS_oldW {a b : World} {T Z : Nat → Prop} (H : DiskS a p g bm M d) (hw : Waits a (fun j => dkZ p g bm M j ∨ Z j) bm d) (K : Kx T a b) (hT : ∀ k, T k → Z k ∨ a.heap.size ≤ k) (hZ : ∀ k, dkZ p g bm M k → ¬ Z k) : DiskS b p g bm M d := by
  have hz := diskS_zlt H
  obtain ⟨h1, ⟨cap, ov, h2, h3, h4, h5⟩, -, h7⟩ := H
  have no : ∀ k, dkZ p g bm M k → ¬ T k := fun k hk ht => by
    rcases hT k ht with h | h
    · exact hZ k hk h
    · have := hz k hk; omega
  refine ⟨h1, ⟨cap, ov, diskAt_kx h2 K (no _ (Or.inl rfl)), rowOwn_kxS h3 K (fun j hj h => ?_), rowOwn_kxS h4 K (fun j hj h => no j (Or.inr (Or.inr (Or.inr (by rw [← h5]; exact hj)))) h), h5⟩, waits_turn hw K (no _ (Or.inr (Or.inr (Or.inl rfl)))) (fun k hk => ?_) (fun k hk => Or.inl (Or.inl hk)), h7⟩
  · obtain rfl : g = j := by simpa [Value.ownBlock] using hj
    exact no _ (Or.inr (Or.inl rfl)) h
  · rcases hT k hk with h | h
    · exact Or.inl (Or.inr h)
    · exact Or.inr h
end
end Go.Proofs.YtkbdhhmkdjajgaaDoor
