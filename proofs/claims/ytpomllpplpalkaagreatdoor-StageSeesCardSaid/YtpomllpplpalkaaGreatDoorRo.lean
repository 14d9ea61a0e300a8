/- rows of bytes that lie in none of some blocks; copies of slices -/
import Derived.Test.YtpomllpplpalkaaGreatDoorRi
import Derived.Test.YtpomllpplpalkaaGreatDoorEt
import Derived.Test.YtpomllpplpalkaaGreatDoorOe
namespace Go.Proofs.YtpomllpplpalkaaGreatDoor
set_option linter.unusedVariables false
set_option linter.unusedSimpArgs false
open Go.ChangeShapes Go.WideShapes Go.ChangeAt Go.RowKit

theorem rowOwn_kxS {S : Nat → Prop} {base e size n : Nat} {a b : World} {v : Value} {xs : List Value} (h : a.ownsRow base e size v n xs) (g : Kx S a b) (hn : ∀ k, v.ownBlock = some k → ¬ S k) : b.ownsRow base e size v n xs := by
  rcases h with ⟨h1, ⟨rfl, h2⟩ | ⟨g', cap, cur, rfl, hb, hg, hn', hc, hs, ht⟩⟩
  · exact ⟨h1, .inl ⟨rfl, h2⟩⟩
  · exact ⟨h1, .inr ⟨g', cap, cur, rfl, hb, heap_kx g (hn _ rfl) hg, hn', hc, hs, ht⟩⟩
theorem kx_grown {a b : World} {u v : Value} (h : Grown a b u v) : Kx (fun k => u.ownBlock = some k) a b :=
  ⟨h.1.os, h.1.tape, h.1.output, h.1.size, fun k hk hs => h.1.block k hk (fun e => hs e.symm)⟩
end Go.Proofs.YtpomllpplpalkaaGreatDoor
