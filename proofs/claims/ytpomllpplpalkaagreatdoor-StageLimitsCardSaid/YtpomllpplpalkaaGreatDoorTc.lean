/- stage: rows of changes of their own; a stage beside maps -/
import Derived.Test.YtpomllpplpalkaaGreatDoorTb
import Derived.Test.YtpomllpplpalkaaGreatDoorWo
import Derived.Test.YtpomllpplpalkaaGreatDoorRo
namespace Go.Proofs.YtpomllpplpalkaaGreatDoor
set_option linter.unusedVariables false
set_option linter.unusedSimpArgs false
open Go.ChangeShapes Go.WideShapes Go.ChangeAt Go.RowKit Go.Maps

def NoTy (w : World) (i : Nat) (T : TypeId) : Prop := ∀ a f, w.heap[i]? ≠ some (.cells a T f)
def NoMap (w : World) (i : Nat) : Prop := ∀ es c, w.heap[i]? ≠ some (.map es c)
theorem noTy_of {w : World} {i : Nat} {T U : TypeId} {a : Array Value} {f : Nat × Nat} (h : w.heap[i]? = some (.cells a U f)) (hn : U ≠ T) : NoTy w i T := fun b g e => by
  rw [h] at e
  simp at e
  exact hn e.2.1
theorem noTy_map {w : World} {i c : Nat} {es : Array MapEntry} {T : TypeId} (h : w.heap[i]? = some (.map es c)) : NoTy w i T := fun b g e => by rw [h] at e; cases e
theorem noTy_new {w : World} {i : Nat} {T : TypeId} (h : w.heap.size ≤ i) : NoTy w i T := fun a f e => by
  have := (Array.getElem?_eq_some_iff.1 e).1
  omega
theorem noMap_of {w : World} {i : Nat} {U : TypeId} {a : Array Value} {f : Nat × Nat} (h : w.heap[i]? = some (.cells a U f)) : NoMap w i := fun es c e => by rw [h] at e; cases e
theorem own_tyC {w : World} {T : TypeId} {base size n : Nat} {v : Value} {xs : List Value} (h : w.ownsRow base T size v n xs) {k : Nat} (hk : v.ownBlock = some k) : base ≤ k ∧ ∃ cur, w.heap[k]? = some (.cells cur T (0, 0)) := by
  rcases h.2 with ⟨e, _⟩ | ⟨g, cap, cur, e, hb, hg, _⟩
  · subst e; cases hk
  · subst e
    obtain rfl : g = k := by simpa [Value.ownBlock] using hk
    exact ⟨hb, cur, hg⟩
theorem fr2_no {w : World} {B i : Nat} (h : Fr2 w B) (hn : NoTy w i 58) : B ≠ i := by
  rintro rfl
  obtain ⟨cur, h⟩ := h
  exact hn _ _ h
theorem Fam.ty {W w w' : World} {N k : Nat} {Q : Nat → Nat} {M : Nat → Option Nat} {σ : Nat → Int → Option MO} {Z : Nat → Prop} (F : Fam W w N k Q M σ) (K : Kx Z w w') (hZ : ∀ i, Z i → W.heap.size ≤ i ∧ NoTy w i 105 ∧ NoTy w i 58 ∧ NoMap w i) : Fam W w' N k Q M σ :=
  ⟨fun j hj => mdAt_ty (F.md j hj) K (fun h => (hZ _ h).2.1 _ _ (F.md j hj).1) (fun m hm h => by
    obtain ⟨D, o, -⟩ := (F.md j hj).2.2 m hm
    obtain ⟨es, cl, hh⟩ := ownsMap_heap o
    exact (hZ _ h).2.2.2 _ _ hh) (fun B hf h => fr2_no hf (hZ _ h).2.2.1 rfl), F.hq, F.hm, F.sep, Kx.gr K F.gr (fun b hb => (hZ b hb).1)⟩
theorem Fam.at {W w : World} {N k j : Nat} {Q : Nat → Nat} {M : Nat → Option Nat} {σ : Nat → Int → Option MO} (F : Fam W w N k Q M σ) (hj : j < k) {i : Nat} (h : i = Q j ∨ M j = some i) {T : TypeId} (hT : 105 ≠ T) : NoTy w i T := by
  rcases h with rfl | h
  · exact noTy_of (F.md j hj).1 hT
  · obtain ⟨D, o, -⟩ := (F.md j hj).2.2 i h
    obtain ⟨es, cl, hh⟩ := ownsMap_heap o
    exact noTy_map hh
def chC (c : MChg) : List Value := [.int .i64 c.kd, .int .i64 c.id, .int .i64 c.k, c.v]
def chCs : List MChg → List Value
  | [] => []
  | c :: L => chC c ++ chCs L
theorem chCs_app : ∀ (L L' : List MChg), chCs (L ++ L') = chCs L ++ chCs L'
  | [], _ => rfl
  | c :: L, L' => by show chC c ++ chCs (L ++ L') = (chC c ++ chCs L) ++ chCs L'; rw [chCs_app L L', List.append_assoc]
theorem chCs_one (c : MChg) : chCs [c] = chC c := by show chC c ++ [] = chC c; rw [List.append_nil]
theorem chCs_len : ∀ L : List MChg, (chCs L).length = L.length * 4
  | [] => rfl
  | c :: L => by
    show (chC c ++ chCs L).length = (L.length + 1) * 4
    rw [List.length_append, chCs_len L]
    show 4 + _ = _
    omega
def MChg.nul : MChg := ⟨0, 0, 0, .slice Option.none 0 0, 0, fun _ => 0, fun _ => 0⟩
theorem chCs_get : ∀ (L : List MChg) (i : Nat), i < L.length → (chCs L)[i * 4]? = some (.int .i64 (L.getD i MChg.nul).kd) ∧ (chCs L)[i * 4 + 1]? = some (.int .i64 (L.getD i MChg.nul).id) ∧ (chCs L)[i * 4 + 2]? = some (.int .i64 (L.getD i MChg.nul).k) ∧ (chCs L)[i * 4 + 3]? = some (L.getD i MChg.nul).v
  | [], i, h => absurd h (Nat.not_lt_zero _)
  | c :: L, 0, h => ⟨rfl, rfl, rfl, rfl⟩
  | c :: L, i + 1, h => by
    have ih := chCs_get L i (by simpa using h)
    rw [show (i + 1) * 4 = i * 4 + 1 + 1 + 1 + 1 by omega, show i * 4 + 1 + 1 + 1 + 1 + 1 = (i * 4 + 1) + 1 + 1 + 1 + 1 by omega, show i * 4 + 1 + 1 + 1 + 1 + 2 = (i * 4 + 2) + 1 + 1 + 1 + 1 by omega, show i * 4 + 1 + 1 + 1 + 1 + 3 = (i * 4 + 3) + 1 + 1 + 1 + 1 by omega]
    exact ih
structure ChRow (w : World) (base : Nat) (v : Value) (L : List MChg) : Prop where
  own : w.ownsRow base 50 4 v L.length (chCs L)
  pts : ∀ c, c ∈ L → PtsF w base c.v c.n c.X c.Y ∧ i64R c.id ∧ c.n ≤ 1000
theorem ChRow.ty {Z : Nat → Prop} {a b : World} {base : Nat} {v : Value} {L : List MChg} (h : ChRow a base v L) (K : Kx Z a b) (hZ : ∀ i, Z i → NoTy a i 50 ∧ NoTy a i 58) : ChRow b base v L :=
  ⟨rowOwn_kxS h.own K (fun k hk hs => by
    obtain ⟨-, cur, hc⟩ := own_tyC h.own hk
    exact (hZ k hs).1 _ _ hc), fun c hc => ⟨ptsF_ty (h.pts c hc).1 K (fun B hf hs => fr2_no hf (hZ B hs).2 rfl), (h.pts c hc).2⟩⟩
theorem ChRow.gr {a b : World} {base : Nat} {v : Value} {L : List MChg} (h : ChRow a base v L) (g : Gr a b) : ChRow b base v L := h.ty (Z := fun _ => False) (Kx.of_gr g) (fun _ h => h.elim)
theorem ChRow.nil (w : World) (base : Nat) : ChRow w base (.slice none 0 0) [] := ⟨World.ownsRow_nil _ _ _ _, fun c h => by cases h⟩
theorem ChRow.more {a b c : World} {base : Nat} {v v' : Value} {L : List MChg} {x : MChg} (h : ChRow a base v L) (g : Gr a b) (o : c.ownsRow base 50 4 v' (L.length + 1) (chCs L ++ chC x)) (K : Grown b c v v') (hp : PtsF b base x.v x.n x.X x.Y) (hi : i64R x.id) (hn : x.n ≤ 1000) : ChRow c base v' (L ++ [x]) := by
  have hk : ∀ B, Fr2 b B → ¬ v.ownBlock = some B := fun B hf e => by
    obtain ⟨-, cur, hc⟩ := own_tyC (h.gr g).own e
    exact fr2_no hf (noTy_of hc (by decide)) rfl
  refine ⟨by rw [List.length_append, chCs_app, chCs_one]; exact o, fun y hy => ?_⟩
  rcases List.mem_append.1 hy with e | e
  · exact ⟨ptsF_ty ((h.gr g).pts y e).1 (kx_grown K) hk, (h.pts y e).2⟩
  · obtain rfl := List.mem_singleton.1 e
    exact ⟨ptsF_ty hp (kx_grown K) hk, hi, hn⟩
structure CS where
  kd : Int
  id : Int
  o : MO
def chSem (c : MChg) : CS := ⟨c.kd, c.id, ⟨c.k, c.n, c.X, c.Y⟩⟩
structure StF (W w : World) (N k : Nat) (Q : Nat → Nat) (M : Nat → Option Nat) (σ : Nat → Int → Option MO) (S b j : Nat) (op : Bool) (G : List CS) : Prop where
  fam : Fam W w N k Q M σ
  hb : b < k
  hj : j < k
  hS : W.heap.size ≤ S
  row : ∃ cv L, w.heap[S]? = some (.cells #[.pointer (some ⟨Q b, 0, none⟩), .pointer (some ⟨Q j, 0, none⟩), cv, .bool op] 102 (0, 0)) ∧ ChRow w W.heap.size cv L ∧ L.map chSem = G
section
variable {W w w' : World} {N k : Nat} {Q : Nat → Nat} {M : Nat → Option Nat} {σ : Nat → Int → Option MO} {S b j : Nat} {op : Bool} {G : List CS}
theorem StF.to (F : StF W w N k Q M σ S b j op G) (g : Gr w w') : StF W w' N k Q M σ S b j op G := by
  obtain ⟨f, h1, h2, h3, cv, L, h4, h5, h6⟩ := F
  exact ⟨f.to g, h1, h2, h3, cv, L, heap_kx (S := fun _ => False) (Kx.of_gr g) (fun h => h) h4, h5.gr g, h6⟩
theorem StF.le {N' : Nat} (F : StF W w N k Q M σ S b j op G) (h : N ≤ N') : StF W w N' k Q M σ S b j op G := ⟨F.fam.le h, F.hb, F.hj, F.hS, F.row⟩
theorem StF.as {τ : Nat → Int → Option MO} (F : StF W w N k Q M σ S b j op G) (hσ : ∀ i, i < k → σ i = τ i) : StF W w N k Q M τ S b j op G := ⟨F.fam.as (fun _ _ => rfl) hσ, F.hb, F.hj, F.hS, F.row⟩
theorem StF.done {i c : Nat} {id : Int} {σ' : Int → Option MO} {e : Ending} (F : StF W w N k Q M σ S b j op G) (hi : i < k) (h : MdTo w (Q i) (M i) N id c σ' e w') :
    ∃ o v M', e = .returned v ∧ WErr o w' v id c ∧ (o = modelS ∨ o = changeS) ∧ StF W w' (N + 1) k Q M' (fun a => if a = i then σ' else σ a) S b j op G := by
  have h' := h
  obtain ⟨_, _, _, -, -, -, -, -, K⟩ := h'
  obtain ⟨o, v, M', rfl, hw, ho, f'⟩ := F.fam.done hi h
  obtain ⟨f, h1, h2, h3, cv, L, h4, h5, h6⟩ := F
  exact ⟨o, v, M', rfl, hw, ho, f', h1, h2, h3, cv, L, heap_kx K (fun hs => f.at hi hs (T := 102) (by decide) _ _ h4) h4, h5.ty K (fun x hx => ⟨f.at hi hx (by decide), f.at hi hx (by decide)⟩), h6⟩
theorem StF.put {Z : Nat → Prop} {cv' : Value} {op' : Bool} {L' : List MChg} (F : StF W w N k Q M σ S b j op G) (K : Kx Z w w') (hZ : ∀ i, Z i → i = S ∨ (W.heap.size ≤ i ∧ (w.heap.size ≤ i ∨ ∃ a f, w.heap[i]? = some (.cells a 50 f)))) (h4 : w'.heap[S]? = some (.cells #[.pointer (some ⟨Q b, 0, none⟩), .pointer (some ⟨Q j, 0, none⟩), cv', .bool op'] 102 (0, 0))) (h5 : ChRow w' W.heap.size cv' L') : StF W w' N k Q M σ S b j op' (L'.map chSem) := by
  obtain ⟨f, h1, h2, h3, cv, L, h6, h7, h8⟩ := F
  refine ⟨f.ty K (fun i hi => ?_), h1, h2, h3, cv', L', h4, h5, rfl⟩
  rcases hZ i hi with rfl | ⟨hW, hn | ⟨a, g, hh⟩⟩
  · exact ⟨h3, noTy_of h6 (by decide), noTy_of h6 (by decide), noMap_of h6⟩
  · exact ⟨hW, noTy_new hn, noTy_new hn, fun es c e => by have := (Array.getElem?_eq_some_iff.1 e).1; omega⟩
  · exact ⟨hW, noTy_of hh (by decide), noTy_of hh (by decide), noMap_of hh⟩
end
def doC (op : Bool) (G : List CS) (σ : Int → Option MO) (c : CS) : Nat := if op = false then 11 else if 32 ≤ G.length then 13 else apN σ c.kd c.id c.o.k c.o.n c.o.X c.o.Y
def doS (op : Bool) (G : List CS) (σ : Int → Option MO) (c : CS) : Int → Option MO := if doC op G σ c = 0 then apS σ c.kd c.id c.o.k c.o.n c.o.X c.o.Y else σ
def doG (op : Bool) (G : List CS) (σ : Int → Option MO) (c : CS) : List CS := if doC op G σ c = 0 then G ++ [c] else G
end Go.Proofs.YtpomllpplpalkaaGreatDoor
