/- A region that draws its order, whose operations read old memory alone and whose callees make new blocks alone: one walk in the text's order. -/
import Derived.Test.YtfamocpbmbhmbaaDoorK
import Derived.BigQuiet
namespace Go.Proofs.YtfamocpbmbhmbaaDoor
set_option linter.unusedVariables false
open Go.ChangeShapes Go.WideShapes Go.ChangeAt Go.RowKit

/-- What comes to a world: new blocks; the count of draws. -/
structure More where
  d : Nat
  os : Array Obj
instance : Nonempty More := ⟨⟨0, #[]⟩⟩
/-- w with these blocks behind it, the count of draws at d. -/
def spread (w : World) (m : More) : World := { w with heap := w.heap ++ m.os, drawn := m.d }

theorem gr_spread (w : World) (m : More) : Gr w (spread w m) :=
  ⟨rfl, rfl, rfl, by simp [spread], fun k hk => by simp [spread, Array.getElem?_append, hk]⟩
theorem spread_of_gr {w w' : World} (g : Gr w w') : ∃ m, w' = spread w m := by
  refine ⟨⟨w'.drawn, w'.heap.extract w.heap.size w'.heap.size⟩, ?_⟩
  have hh : w'.heap = w.heap ++ w'.heap.extract w.heap.size w'.heap.size := by
    refine Array.ext_getElem? fun k => ?_
    rw [Array.getElem?_append]
    split
    · rename_i hk
      exact g.block k hk
    · rename_i hk
      rw [Array.getElem?_extract]
      have hs := g.size
      by_cases hk2 : k < w'.heap.size
      · rw [if_pos (by omega), show w.heap.size + (k - w.heap.size) = k by omega]
      · rw [if_neg (by omega), Array.getElem?_eq_none (by omega)]
  obtain ⟨h1, h2, h3, h4, h5⟩ := g
  cases w'
  simp only [spread] at *
  subst h1 h2 h3
  congr
theorem spread_gr {w : World} {m : More} {w' : World} (g : Gr (spread w m) w') : ∃ m', w' = spread w m' := spread_of_gr (Gr.trans (gr_spread w m) g)

@[go_sem] theorem cell?_spread (w : World) (m : More) (a : Addr) (h : (w.cell? a).isSome = true) : (spread w m).cell? a = w.cell? a := by
  obtain ⟨u, hu⟩ := Option.isSome_iff_exists.1 h
  exact (gr_spread w m).cell (World.block_lt_of_cell? w a hu)

theorem wp_region_spread {P : Program} {id : Nat} {Q : Exit → Act → World → Prop} {a : Act} {w : World} {l : List Oper} (hm : P.follows .mixedOrders = true) (hB : Region.lexB .any l.toArray = true)
    (h : wpQuiet P l.toArray (fun w' => ∃ m, w' = spread w m) (fun a' => ∀ w', (∃ m, w' = spread w m) → Q .normal a' w') l a) : (Code.region id l.toArray true).wp P Q a w :=
  wp_region_quiet (C := fun w' => ∃ m, w' = spread w m) hm hB ⟨⟨w.drawn + 1, #[]⟩, by simp [spread]⟩ (by simpa using h)
end Go.Proofs.YtfamocpbmbhmbaaDoor
