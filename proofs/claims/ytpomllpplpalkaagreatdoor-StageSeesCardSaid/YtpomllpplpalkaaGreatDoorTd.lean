import Derived.Test.YtpomllpplpalkaaGreatDoorWn
import Derived.Test.YtpomllpplpalkaaGreatDoorTb
import Derived.Test.YtpomllpplpalkaaGreatDoorRo
/- model: several maps beside each other; the states of a row of changes -/
namespace Go.Proofs.YtpomllpplpalkaaGreatDoor
set_option linter.unusedVariables false
set_option linter.unusedSimpArgs false
open Go.ChangeShapes Go.WideShapes Go.ChangeAt Go.RowKit Go.Maps

structure Fam (W w : World) (N k : Nat) (Q : Nat → Nat) (M : Nat → Option Nat) (σ : Nat → Int → Option MO) : Prop where
  md : ∀ j, j < k → MdAt w (Q j) (M j) (σ j) N
  hq : ∀ j, j < k → W.heap.size ≤ Q j
  hm : ∀ j, j < k → ∀ m, M j = some m → W.heap.size ≤ m
  sep : ∀ i j, i < k → j < k → i ≠ j → Q i ≠ Q j ∧ ∀ m, M i = some m → M j ≠ some m
  gr : Gr W w
section
variable {W w w' : World} {N k : Nat} {Q : Nat → Nat} {M : Nat → Option Nat} {σ : Nat → Int → Option MO}
theorem mdAt_ltQ {a : World} {q n : Nat} {m : Option Nat} {τ : Int → Option MO} (h : MdAt a q m τ n) : q < a.heap.size := by
  have := Hm.cell_of_heap h.1 0
  exact World.block_lt_of_cell? _ _ this
theorem mdAt_ltM {a : World} {q n : Nat} {m : Option Nat} {τ : Int → Option MO} (h : MdAt a q m τ n) {x : Nat} (e : m = some x) : x < a.heap.size := by
  obtain ⟨D, hD, -⟩ := h.2.2 x e
  exact hD.lt
theorem Fam.le {N' : Nat} (F : Fam W w N k Q M σ) (h : N ≤ N') : Fam W w N' k Q M σ := ⟨fun j hj => mdAt_le (F.md j hj) h, F.hq, F.hm, F.sep, F.gr⟩
theorem Fam.to (F : Fam W w N k Q M σ) (g : Gr w w') : Fam W w' N k Q M σ := ⟨fun j hj => mdAt_gr (F.md j hj) g, F.hq, F.hm, F.sep, Gr.trans F.gr g⟩
theorem Fam.as {Q' : Nat → Nat} {τ : Nat → Int → Option MO} (F : Fam W w N k Q M σ) (hQ : ∀ j, j < k → Q j = Q' j) (hσ : ∀ j, j < k → σ j = τ j) : Fam W w N k Q' M τ :=
  ⟨fun j hj => by rw [← hQ j hj, ← hσ j hj]; exact F.md j hj, fun j hj => by rw [← hQ j hj]; exact F.hq j hj, F.hm, fun i j hi hj e => by rw [← hQ i hi, ← hQ j hj]; exact F.sep i j hi hj e, F.gr⟩
theorem Fam.none (g : Gr W w) : Fam W w N 0 Q M σ := ⟨fun j hj => absurd hj (by omega), fun j hj => absurd hj (by omega), fun j hj => absurd hj (by omega), fun i j hi => absurd hi (by omega), g⟩
theorem Fam.more {C : Nat} {MC : Option Nat} {τ : Int → Option MO} (F : Fam W w N k Q M σ) (h : MdAt w' C MC τ N) (hC : w.heap.size ≤ C) (hMC : ∀ m, MC = some m → w.heap.size ≤ m) (g : Gr w w') :
    Fam W w' N (k + 1) (fun j => if j = k then C else Q j) (fun j => if j = k then MC else M j) (fun j => if j = k then τ else σ j) := by
  have s := F.gr.size
  refine ⟨fun j hj => ?_, fun j hj => ?_, fun j hj m => ?_, fun i j hi hj e => ?_, Gr.trans F.gr g⟩
  · by_cases e : j = k
    · simp only [e, if_true]; exact h
    · simp only [e, if_false]; exact mdAt_gr (F.md j (by omega)) g
  · by_cases e : j = k
    · simp only [e, if_true]; omega
    · simp only [e, if_false]; exact F.hq j (by omega)
  · by_cases e : j = k
    · simp only [e, if_true]; intro hm; have := hMC m hm; omega
    · simp only [e, if_false]; exact F.hm j (by omega) m
  · by_cases ei : i = k
    · have ej : j ≠ k := by omega
      have l1 := mdAt_ltQ (F.md j (by omega))
      simp only [ei, ej, if_true, if_false]
      refine ⟨by omega, fun m hm e2 => ?_⟩
      have := mdAt_ltM (F.md j (by omega)) e2
      have := hMC m hm
      omega
    · by_cases ej : j = k
      · have l1 := mdAt_ltQ (F.md i (by omega))
        simp only [ei, ej, if_true, if_false]
        refine ⟨by omega, fun m hm e2 => ?_⟩
        have := mdAt_ltM (F.md i (by omega)) hm
        have := hMC m e2
        omega
      · simp only [ei, ej, if_false]
        exact F.sep i j (by omega) (by omega) e
theorem Fam.done {j c : Nat} {id : Int} {σ' : Int → Option MO} {e : Ending} (F : Fam W w N k Q M σ) (hj : j < k) (h : MdTo w (Q j) (M j) N id c σ' e w') :
    ∃ op v M', e = .returned v ∧ WErr op w' v id c ∧ (op = modelS ∨ op = changeS) ∧ Fam W w' (N + 1) k Q M' (fun i => if i = j then σ' else σ i) := by
  obtain ⟨op, v, M', rfl, hw, hop, hm, hs, K⟩ := h
  have s := F.gr.size
  have fresh : ∀ i m, i < k → i ≠ j → M' = some m → M i ≠ some m := fun i m hi e hm' e2 => by
    rcases hs m hm' with h | h
    · exact (F.sep i j hi hj e).2 m e2 h
    · have := mdAt_ltM (F.md i hi) e2
      omega
  refine ⟨op, v, fun i => if i = j then M' else M i, rfl, hw, hop, ⟨fun i hi => ?_, F.hq, fun i hi m => ?_, fun a b ha hb e => ⟨(F.sep a b ha hb e).1, fun m => ?_⟩, Kx.gr K F.gr (fun b hb => ?_)⟩⟩
  · by_cases e : i = j
    · simp only [e, if_true]; exact hm
    · simp only [e, if_false]
      exact mdAt_le (mdAt_oth (F.md i hi) (F.md j hj) K (F.sep i j hi hj e).1 (F.sep i j hi hj e).2) (Nat.le_succ _)
  · by_cases e : i = j
    · simp only [e, if_true]
      intro hm'
      rcases hs m hm' with h | h
      · exact F.hm j hj m h
      · omega
    · simp only [e, if_false]; exact F.hm i hi m
  · by_cases ea : a = j
    · have eb : b ≠ j := by omega
      simp only [ea, eb, if_true, if_false]
      exact fun hm' => fresh b m hb eb hm'
    · by_cases eb : b = j
      · simp only [ea, eb, if_true, if_false]
        exact fun hm' e2 => fresh a m ha ea e2 hm'
      · simp only [ea, eb, if_false]
        exact (F.sep a b ha hb e).2 m
  · rcases hb with hb | hb
    · rw [hb]; exact F.hq j hj
    · exact F.hm j hj b hb
end
def stM (D : Nat → MChg) : Nat → Int → Option MO
  | 0 => fun _ => none
  | i + 1 => apS (stM D i) (D i).kd (D i).id (D i).k (D i).n (D i).X (D i).Y
end Go.Proofs.YtpomllpplpalkaaGreatDoor
/- stage: rows of changes of their own; a stage beside maps -/
namespace Go.Proofs.YtpomllpplpalkaaGreatDoor
set_option linter.unusedVariables false
set_option linter.unusedSimpArgs false
open Go.ChangeShapes Go.WideShapes Go.ChangeAt Go.RowKit Go.Maps

def NoTy (w : World) (i : Nat) (T : TypeId) : Prop := ∀ a f, w.heap[i]? ≠ some (.cells a T f)
def NoMap (w : World) (i : Nat) : Prop := ∀ es c, w.heap[i]? ≠ some (.map es c)
theorem noTy_of {w : World} {i : Nat} {T U : TypeId} {a : Array Value} {f : Nat × Nat} (h : w.heap[i]? = some (.cells a U f)) (hn : U ≠ T) : NoTy w i T := fun b g e => by
  rw [h] at e
  simp at e
  exact hn e.2.1
theorem noTy_map {w : World} {i c : Nat} {es : Array MapEntry} {T : TypeId} (h : w.heap[i]? = some (.map es c)) : NoTy w i T := fun b g e => by rw [h] at e; cases e
theorem noTy_new {w : World} {i : Nat} {T : TypeId} (h : w.heap.size ≤ i) : NoTy w i T := fun a f e => by
  have := (Array.getElem?_eq_some_iff.1 e).1
  omega
theorem noMap_of {w : World} {i : Nat} {U : TypeId} {a : Array Value} {f : Nat × Nat} (h : w.heap[i]? = some (.cells a U f)) : NoMap w i := fun es c e => by rw [h] at e; cases e
theorem own_tyC {w : World} {T : TypeId} {base size n : Nat} {v : Value} {xs : List Value} (h : w.ownsRow base T size v n xs) {k : Nat} (hk : v.ownBlock = some k) : base ≤ k ∧ ∃ cur, w.heap[k]? = some (.cells cur T (0, 0)) := by
  rcases h.2 with ⟨e, _⟩ | ⟨g, cap, cur, e, hb, hg, _⟩
  · subst e; cases hk
  · subst e
    obtain rfl : g = k := by simpa [Value.ownBlock] using hk
    exact ⟨hb, cur, hg⟩
theorem fr2_no {w : World} {B i : Nat} (h : Fr2 w B) (hn : NoTy w i 58) : B ≠ i := by
  rintro rfl
  obtain ⟨cur, h⟩ := h
  exact hn _ _ h
theorem Fam.ty {W w w' : World} {N k : Nat} {Q : Nat → Nat} {M : Nat → Option Nat} {σ : Nat → Int → Option MO} {Z : Nat → Prop} (F : Fam W w N k Q M σ) (K : Kx Z w w') (hZ : ∀ i, Z i → W.heap.size ≤ i ∧ NoTy w i 105 ∧ NoTy w i 58 ∧ NoMap w i) : Fam W w' N k Q M σ :=
  ⟨fun j hj => mdAt_ty (F.md j hj) K (fun h => (hZ _ h).2.1 _ _ (F.md j hj).1) (fun m hm h => by
    obtain ⟨D, o, -⟩ := (F.md j hj).2.2 m hm
    obtain ⟨es, cl, hh⟩ := ownsMap_heap o
    exact (hZ _ h).2.2.2 _ _ hh) (fun B hf h => fr2_no hf (hZ _ h).2.2.1 rfl), F.hq, F.hm, F.sep, Kx.gr K F.gr (fun b hb => (hZ b hb).1)⟩
theorem Fam.at {W w : World} {N k j : Nat} {Q : Nat → Nat} {M : Nat → Option Nat} {σ : Nat → Int → Option MO} (F : Fam W w N k Q M σ) (hj : j < k) {i : Nat} (h : i = Q j ∨ M j = some i) {T : TypeId} (hT : 105 ≠ T) : NoTy w i T := by
  rcases h with rfl | h
  · exact noTy_of (F.md j hj).1 hT
  · obtain ⟨D, o, -⟩ := (F.md j hj).2.2 i h
    obtain ⟨es, cl, hh⟩ := ownsMap_heap o
    exact noTy_map hh
def chC (c : MChg) : List Value := [.int .i64 c.kd, .int .i64 c.id, .int .i64 c.k, c.v]
def chCs : List MChg → List Value
  | [] => []
  | c :: L => chC c ++ chCs L
theorem chCs_app : ∀ (L L' : List MChg), chCs (L ++ L') = chCs L ++ chCs L'
  | [], _ => rfl
  | c :: L, L' => by show chC c ++ chCs (L ++ L') = (chC c ++ chCs L) ++ chCs L'; rw [chCs_app L L', List.append_assoc]
theorem chCs_one (c : MChg) : chCs [c] = chC c := by show chC c ++ [] = chC c; rw [List.append_nil]
theorem chCs_len : ∀ L : List MChg, (chCs L).length = L.length * 4
  | [] => rfl
  | c :: L => by
    show (chC c ++ chCs L).length = (L.length + 1) * 4
    rw [List.length_append, chCs_len L]
    show 4 + _ = _
    omega
def MChg.nul : MChg := ⟨0, 0, 0, .slice Option.none 0 0, 0, fun _ => 0, fun _ => 0⟩
theorem chCs_get : ∀ (L : List MChg) (i : Nat), i < L.length → (chCs L)[i * 4]? = some (.int .i64 (L.getD i MChg.nul).kd) ∧ (chCs L)[i * 4 + 1]? = some (.int .i64 (L.getD i MChg.nul).id) ∧ (chCs L)[i * 4 + 2]? = some (.int .i64 (L.getD i MChg.nul).k) ∧ (chCs L)[i * 4 + 3]? = some (L.getD i MChg.nul).v
  | [], i, h => absurd h (Nat.not_lt_zero _)
  | c :: L, 0, h => ⟨rfl, rfl, rfl, rfl⟩
  | c :: L, i + 1, h => by
    have ih := chCs_get L i (by simpa using h)
    rw [show (i + 1) * 4 = i * 4 + 1 + 1 + 1 + 1 by omega, show i * 4 + 1 + 1 + 1 + 1 + 1 = (i * 4 + 1) + 1 + 1 + 1 + 1 by omega, show i * 4 + 1 + 1 + 1 + 1 + 2 = (i * 4 + 2) + 1 + 1 + 1 + 1 by omega, show i * 4 + 1 + 1 + 1 + 1 + 3 = (i * 4 + 3) + 1 + 1 + 1 + 1 by omega]
    exact ih
structure ChRow (w : World) (base : Nat) (v : Value) (L : List MChg) : Prop where
  own : w.ownsRow base 50 4 v L.length (chCs L)
  pts : ∀ c, c ∈ L → PtsF w base c.v c.n c.X c.Y ∧ i64R c.id ∧ c.n ≤ 1000
theorem ChRow.ty {Z : Nat → Prop} {a b : World} {base : Nat} {v : Value} {L : List MChg} (h : ChRow a base v L) (K : Kx Z a b) (hZ : ∀ i, Z i → NoTy a i 50 ∧ NoTy a i 58) : ChRow b base v L :=
  ⟨rowOwn_kxS h.own K (fun k hk hs => by
    obtain ⟨-, cur, hc⟩ := own_tyC h.own hk
    exact (hZ k hs).1 _ _ hc), fun c hc => ⟨ptsF_ty (h.pts c hc).1 K (fun B hf hs => fr2_no hf (hZ B hs).2 rfl), (h.pts c hc).2⟩⟩
theorem ChRow.gr {a b : World} {base : Nat} {v : Value} {L : List MChg} (h : ChRow a base v L) (g : Gr a b) : ChRow b base v L := h.ty (Z := fun _ => False) (Kx.of_gr g) (fun _ h => h.elim)
theorem ChRow.nil (w : World) (base : Nat) : ChRow w base (.slice none 0 0) [] := ⟨World.ownsRow_nil _ _ _ _, fun c h => by cases h⟩
theorem ChRow.more {a b c : World} {base : Nat} {v v' : Value} {L : List MChg} {x : MChg} (h : ChRow a base v L) (g : Gr a b) (o : c.ownsRow base 50 4 v' (L.length + 1) (chCs L ++ chC x)) (K : Grown b c v v') (hp : PtsF b base x.v x.n x.X x.Y) (hi : i64R x.id) (hn : x.n ≤ 1000) : ChRow c base v' (L ++ [x]) := by
  have hk : ∀ B, Fr2 b B → ¬ v.ownBlock = some B := fun B hf e => by
    obtain ⟨-, cur, hc⟩ := own_tyC (h.gr g).own e
    exact fr2_no hf (noTy_of hc (by decide)) rfl
  refine ⟨by rw [List.length_append, chCs_app, chCs_one]; exact o, fun y hy => ?_⟩
  rcases List.mem_append.1 hy with e | e
  · exact ⟨ptsF_ty ((h.gr g).pts y e).1 (kx_grown K) hk, (h.pts y e).2⟩
  · obtain rfl := List.mem_singleton.1 e
    exact ⟨ptsF_ty hp (kx_grown K) hk, hi, hn⟩
structure CS where
  kd : Int
  id : Int
  o : MO
def chSem (c : MChg) : CS := ⟨c.kd, c.id, ⟨c.k, c.n, c.X, c.Y⟩⟩
structure StF (W w : World) (N k : Nat) (Q : Nat → Nat) (M : Nat → Option Nat) (σ : Nat → Int → Option MO) (S b j : Nat) (op : Bool) (G : List CS) : Prop where
  fam : Fam W w N k Q M σ
  hb : b < k
  hj : j < k
  hS : W.heap.size ≤ S
  row : ∃ cv L, w.heap[S]? = some (.cells #[.pointer (some ⟨Q b, 0, none⟩), .pointer (some ⟨Q j, 0, none⟩), cv, .bool op] 102 (0, 0)) ∧ ChRow w W.heap.size cv L ∧ L.map chSem = G
section
variable {W w w' : World} {N k : Nat} {Q : Nat → Nat} {M : Nat → Option Nat} {σ : Nat → Int → Option MO} {S b j : Nat} {op : Bool} {G : List CS}
theorem StF.to (F : StF W w N k Q M σ S b j op G) (g : Gr w w') : StF W w' N k Q M σ S b j op G := by
  obtain ⟨f, h1, h2, h3, cv, L, h4, h5, h6⟩ := F
  exact ⟨f.to g, h1, h2, h3, cv, L, heap_kx (S := fun _ => False) (Kx.of_gr g) (fun h => h) h4, h5.gr g, h6⟩
theorem StF.le {N' : Nat} (F : StF W w N k Q M σ S b j op G) (h : N ≤ N') : StF W w N' k Q M σ S b j op G := ⟨F.fam.le h, F.hb, F.hj, F.hS, F.row⟩
theorem StF.as {τ : Nat → Int → Option MO} (F : StF W w N k Q M σ S b j op G) (hσ : ∀ i, i < k → σ i = τ i) : StF W w N k Q M τ S b j op G := ⟨F.fam.as (fun _ _ => rfl) hσ, F.hb, F.hj, F.hS, F.row⟩
theorem StF.done {i c : Nat} {id : Int} {σ' : Int → Option MO} {e : Ending} (F : StF W w N k Q M σ S b j op G) (hi : i < k) (h : MdTo w (Q i) (M i) N id c σ' e w') :
    ∃ o v M', e = .returned v ∧ WErr o w' v id c ∧ (o = modelS ∨ o = changeS) ∧ StF W w' (N + 1) k Q M' (fun a => if a = i then σ' else σ a) S b j op G := by
  have h' := h
  obtain ⟨_, _, _, -, -, -, -, -, K⟩ := h'
  obtain ⟨o, v, M', rfl, hw, ho, f'⟩ := F.fam.done hi h
  obtain ⟨f, h1, h2, h3, cv, L, h4, h5, h6⟩ := F
  exact ⟨o, v, M', rfl, hw, ho, f', h1, h2, h3, cv, L, heap_kx K (fun hs => f.at hi hs (T := 102) (by decide) _ _ h4) h4, h5.ty K (fun x hx => ⟨f.at hi hx (by decide), f.at hi hx (by decide)⟩), h6⟩
theorem StF.put {Z : Nat → Prop} {cv' : Value} {op' : Bool} {L' : List MChg} (F : StF W w N k Q M σ S b j op G) (K : Kx Z w w') (hZ : ∀ i, Z i → i = S ∨ (W.heap.size ≤ i ∧ (w.heap.size ≤ i ∨ ∃ a f, w.heap[i]? = some (.cells a 50 f)))) (h4 : w'.heap[S]? = some (.cells #[.pointer (some ⟨Q b, 0, none⟩), .pointer (some ⟨Q j, 0, none⟩), cv', .bool op'] 102 (0, 0))) (h5 : ChRow w' W.heap.size cv' L') : StF W w' N k Q M σ S b j op' (L'.map chSem) := by
  obtain ⟨f, h1, h2, h3, cv, L, h6, h7, h8⟩ := F
  refine ⟨f.ty K (fun i hi => ?_), h1, h2, h3, cv', L', h4, h5, rfl⟩
  rcases hZ i hi with rfl | ⟨hW, hn | ⟨a, g, hh⟩⟩
  · exact ⟨h3, noTy_of h6 (by decide), noTy_of h6 (by decide), noMap_of h6⟩
  · exact ⟨hW, noTy_new hn, noTy_new hn, fun es c e => by have := (Array.getElem?_eq_some_iff.1 e).1; omega⟩
  · exact ⟨hW, noTy_of hh (by decide), noTy_of hh (by decide), noMap_of hh⟩
end
def doC (op : Bool) (G : List CS) (σ : Int → Option MO) (c : CS) : Nat := if op = false then 11 else if 32 ≤ G.length then 13 else apN σ c.kd c.id c.o.k c.o.n c.o.X c.o.Y
def doS (op : Bool) (G : List CS) (σ : Int → Option MO) (c : CS) : Int → Option MO := if doC op G σ c = 0 then apS σ c.kd c.id c.o.k c.o.n c.o.X c.o.Y else σ
def doG (op : Bool) (G : List CS) (σ : Int → Option MO) (c : CS) : List CS := if doC op G σ c = 0 then G ++ [c] else G
end Go.Proofs.YtpomllpplpalkaaGreatDoor
/- stage: New, ended, Len, End, do -/
namespace Go.Proofs.YtpomllpplpalkaaGreatDoor
set_option linter.unusedVariables false
set_option linter.unusedSimpArgs false
open Go.ChangeShapes Go.WideShapes Go.ChangeAt Go.RowKit Go.Maps

abbrev stageS : ByteArray := ⟨#[115, 116, 97, 103, 101]⟩
theorem st_ended {S : Nat} {a b c : Value} {op : Bool} (W : World) (h : W.heap[S]? = some (.cells #[a, b, c, .bool op] 102 (0, 0))) : Calls Tryz.prog 56 #[.pointer (some ⟨S, 0, none⟩)] W fun e w' => e = .returned (.bool (!op)) ∧ Gr W w' := by
  have c3 : W.cell? ⟨S, 3, none⟩ = some (.bool op) := Hm.cell_of_heap h 3
  have z := World.block_lt_of_cell? _ _ c3
  clear h
  go_enter Tryz.func56, Tryz.ntmps56
  go_wp2_with fail
  go_ret
  exact ⟨rfl, by go_grown⟩
section
variable {W w : World} {N k : Nat} {Q : Nat → Nat} {M : Nat → Option Nat} {σ : Nat → Int → Option MO} {S b j : Nat} {op : Bool} {G : List CS}
theorem st_Len {l : List Int} (F : StF W w N k Q M σ S b j op G) (hl : Ids (σ j) l) : Calls Tryz.prog 18 #[.pointer (some ⟨S, 0, none⟩)] w fun e w' => e = .returned (.int .i64 (l.length : Nat)) ∧ Gr w w' := by
  obtain ⟨cv, L, h, -⟩ := F.row
  have c1 : w.cell? ⟨S, 1, none⟩ = some (.pointer (some ⟨Q j, 0, none⟩)) := Hm.cell_of_heap h 1
  have z := World.block_lt_of_cell? _ _ c1
  have AL := Lib.hid (fun w' (g : Gr w w') => md_lenS hl w' (mdAt_gr (F.fam.md j F.hj) g))
  clear h F hl
  go_enter Tryz.func18, Tryz.ntmps18
  go_wp2_with fail
  go_at_call 28
  refine (AL.out _ (by go_grown)).mono ?_
  rintro e w1 ⟨rfl, g1⟩
  go_wp2_with fail
  go_ret
  exact ⟨rfl, g1⟩
def EndTo (W w : World) (N k : Nat) (Q : Nat → Nat) (M : Nat → Option Nat) (σ : Nat → Int → Option MO) (S b j : Nat) (op : Bool) (G : List CS) (e : Ending) (w' : World) : Prop := ∃ u, e = .returned u ∧ WErr stageS w' u 0 (if op = true then 0 else 11) ∧ StF W w' N k Q M σ S b j false G
set_option maxHeartbeats 1000000 in
set_option maxRecDepth 100000 in
theorem st_End (F : StF W w N k Q M σ S b j op G) : Calls Tryz.prog 13 #[.pointer (some ⟨S, 0, none⟩)] w fun e w' => EndTo W w N k Q M σ S b j op G e w' := by
  obtain ⟨cv, L, h, hr, hL⟩ := F.row
  have HF := Lib.hid F
  have HR := Lib.hid (And.intro hr (And.intro hL h))
  have AE := Lib.hid (fun w' (g : Gr w w') => st_ended w' (heap_kx (S := fun _ => False) (Kx.of_gr g) (fun h => h) h))
  have c3 : w.cell? ⟨S, 3, none⟩ = some (.bool op) := Hm.cell_of_heap h 3
  have f3 := Hm.frozen_of_heap h 3
  have z := World.block_lt_of_cell? _ _ c3
  clear h F hr hL
  go_enter Tryz.func13, Tryz.ntmps13
  go_wp2_with fail
  go_at_call 56
  refine ((AE.out _ (by go_grown))).mono ?_
  rintro e w1 ⟨rfl, hw1⟩
  have gw1 : Gr w w1 := Gr.trans (by go_grown) hw1
  clear hw1
  have d3 := cell_gr gw1 c3
  have e3 := frozen_gr gw1 c3 f3
  have zz := World.block_lt_of_cell? _ _ d3
  clear c3 f3 z
  cases op with
  | false =>
    go_wp2_with fail
    go_at_call 57
    refine (md_fNew stageS 0 11 _).mono ?_
    rintro e w2 ⟨F, rfl, hf, g2⟩
    have HE := Lib.hid (And.intro (faultAt_werr (k := 11) (by decide) hf) (Gr.trans gw1 g2))
    clear hf g2
    go_wp2_with fail
    go_ret
    exact ⟨_, rfl, HE.out.1, HF.out.to HE.out.2⟩
  | true =>
    go_wp2_with fail
    go_ret
    have h1 := heap_kx (S := fun _ => False) (Kx.of_gr gw1) (fun h => h) HR.out.2.2
    have K : Kx (fun i => i = S) w1 (w1.setCell ⟨S, 3, none⟩ (.bool false)) := (Kx.refl (S := fun i => i = S) w1).setCell (p := ⟨S, 3, none⟩) rfl _
    refine ⟨_, rfl, Or.inl ⟨rfl, rfl⟩, ?_⟩
    have := (HF.out.to gw1).put (cv' := cv) (op' := false) (L' := L) K (fun i hi => Or.inl hi) (Hm.heap_set_same h1) ((HR.out.1.gr gw1).ty K (fun i hi => by subst hi; exact ⟨noTy_of h1 (by decide), noTy_of h1 (by decide)⟩))
    rw [HR.out.2.1] at this
    exact this
def NewTo (W w : World) (N k : Nat) (Q : Nat → Nat) (σ : Nat → Int → Option MO) (s : Int → Option MO) (e : Ending) (w' : World) : Prop := ∃ S Q' M', e = .returned (.pointer (some ⟨S, 0, none⟩)) ∧ (∀ i, i < k → Q' i = Q i) ∧ StF W w' N (k + 2) Q' M' (fun i => if i < k then σ i else s) S k (k + 1) true []
set_option maxHeartbeats 1000000 in
set_option maxRecDepth 100000 in
theorem st_mk {C1 C2 : Nat} {M1 M2 : Option Nat} {w1 w2 : World} {s : Int → Option MO} (F : Fam W w N k Q M σ) (h1 : MdAt w1 C1 M1 s N) (hC1 : w.heap.size ≤ C1) (hM1 : ∀ m, M1 = some m → w.heap.size ≤ m) (g1 : Gr w w1) (h2 : MdAt w2 C2 M2 s N) (hC2 : w1.heap.size ≤ C2) (hM2 : ∀ m, M2 = some m → w1.heap.size ≤ m) (g2 : Gr w1 w2) :
    NewTo W w N k Q σ s (.returned (.pointer (some ⟨w2.heap.size, 0, none⟩))) (w2.alloc (.cells #[.pointer (some ⟨C1, 0, none⟩), .pointer (some ⟨C2, 0, none⟩), .slice none 0 0, .bool true] 102)) := by
  have F2 := ((F.more h1 hC1 hM1 g1).more h2 hC2 hM2 g2).to ((Below.refl _ _).alloc (Nat.le_refl _) (.cells #[.pointer (some ⟨C1, 0, none⟩), .pointer (some ⟨C2, 0, none⟩), .slice none 0 0, .bool true] 102))
  refine ⟨w2.heap.size, _, _, rfl, fun i hi => ?_, F2.as (fun i hi => rfl) (fun i hi => ?_), by omega, by omega, (Gr.trans F.gr (Gr.trans g1 g2)).size, .slice none 0 0, [], ?_, ChRow.nil _ _, rfl⟩
  · simp only [show ¬ i = k + 1 by omega, show ¬ i = k by omega, if_false]
  · by_cases e1 : i = k + 1
    · subst e1
      simp only [if_true, show ¬ k + 1 < k by omega, if_false]
    · by_cases e2 : i = k
      · subst e2
        simp only [if_true, show ¬ i = i + 1 by omega, Nat.lt_irrefl, if_false]
      · simp only [e1, e2, if_false, show i < k by omega, if_true]
  · simp only [show ¬ k = k + 1 by omega, if_false, if_true]
    show (w2.heap.push _)[w2.heap.size]? = _
    exact Array.getElem?_push_size
set_option maxHeartbeats 1000000 in
set_option maxRecDepth 100000 in
theorem st_New {b : Nat} (hb : b < k) (F : Fam W w N k Q M σ) : Calls Tryz.prog 11 #[.pointer (some ⟨Q b, 0, none⟩)] w fun e w' => NewTo W w N k Q σ (σ b) e w' := by
  have HF := Lib.hid F
  have AC := Lib.hid (fun w' (g : Gr w w') => md_Copy w' (mdAt_gr (F.md b hb) g))
  obtain ⟨q, hq⟩ : ∃ q, q = Q b := ⟨_, rfl⟩
  rw [← hq] at AC ⊢
  clear F hq hb
  go_enter Tryz.func11, Tryz.ntmps11
  go_wp2_with fail
  go_at_call 25
  refine (AC.out _ (by go_grown)).mono ?_
  rintro e w1 ⟨C1, M1, rfl, a1, a2, a3, g1⟩
  have H1 := Lib.hid (And.intro a1 (And.intro a2 (And.intro a3 g1)))
  clear a1 a2 a3
  go_wp2_with fail
  go_at_call 25
  refine (AC.out _ g1).mono ?_
  rintro e w2 ⟨C2, M2, rfl, b1, b2, b3, g2⟩
  have H2 := Lib.hid (And.intro b1 (And.intro b2 (And.intro b3 g2)))
  clear b1 b2 b3
  go_wp2_with fail
  go_ret
  exact st_mk HF.out H1.out.2.2.1 H1.out.1 H1.out.2.1 H1.out.2.2.2 H2.out.2.2.1 H2.out.1 H2.out.2.1 H2.out.2.2.2
def New0To (W w : World) (e : Ending) (w' : World) : Prop := ∃ S Q' M', e = .returned (.pointer (some ⟨S, 0, none⟩)) ∧ StF W w' 0 3 Q' M' (fun _ _ => none) S 1 2 true []
set_option maxHeartbeats 1000000 in
set_option maxRecDepth 100000 in
theorem st_New0 (g : Gr W w) : Calls Tryz.prog 11 #[.pointer none] w fun e w' => New0To W w e w' := by
  have HG := Lib.hid g
  clear g
  go_enter Tryz.func11, Tryz.ntmps11
  go_wp2_with fail
  go_at_call 12
  refine (md_New w).mono ?_
  rintro e w0 ⟨rfl, e0⟩
  have F0 := (Fam.none (W := W) (w := w) (Q := fun _ => 0) (M := fun _ => none) (σ := fun _ _ => none) (N := 0) HG.out).more (w' := w0) (C := w.heap.size) (MC := none) (τ := fun _ => none) (by rw [e0]; exact mdAt_new (fun _ _ => rfl) (fun m h => (by cases h))) (Nat.le_refl _) (fun m h => (by cases h)) (by rw [e0]; exact (Below.refl _ _).alloc (Nat.le_refl _) _)
  have AC := Lib.hid (fun w' (g : Gr w0 w') => md_Copy (Q := w.heap.size) w' (mdAt_gr (F0.md 0 (by decide)) g))
  have HF := Lib.hid F0
  clear F0 e0
  go_wp2_with fail
  go_at_call 25
  refine (AC.out _ (by go_grown)).mono ?_
  rintro e w1 ⟨C1, M1, rfl, a1, a2, a3, g1⟩
  have H1 := Lib.hid (And.intro a1 (And.intro a2 (And.intro a3 g1)))
  clear a1 a2 a3
  go_wp2_with fail
  go_at_call 25
  refine (AC.out _ g1).mono ?_
  rintro e w2 ⟨C2, M2, rfl, b1, b2, b3, g2⟩
  have H2 := Lib.hid (And.intro b1 (And.intro b2 (And.intro b3 g2)))
  clear b1 b2 b3
  go_wp2_with fail
  go_ret
  obtain ⟨S, Q', M', e, -, F⟩ := st_mk HF.out H1.out.2.2.1 H1.out.1 H1.out.2.1 H1.out.2.2.2 H2.out.2.2.1 H2.out.1 H2.out.2.1 H2.out.2.2.2
  exact ⟨S, Q', M', e, F.as (fun i hi => by
    rcases (by omega : i = 0 ∨ i = 1 ∨ i = 2) with rfl | rfl | rfl <;> rfl)⟩
end
end Go.Proofs.YtpomllpplpalkaaGreatDoor
