import Derived.Test.YtpomllpplpalkaaGreatDoorTb
import Derived.Test.YtpomllpplpalkaaGreatDoorWo
import Derived.Test.YtpomllpplpalkaaGreatDoorRo
/- stage: rows of changes of their own; a stage beside maps -/
namespace Go.Proofs.YtpomllpplpalkaaGreatDoor
set_option linter.unusedVariables false
set_option linter.unusedSimpArgs false
open Go.ChangeShapes Go.WideShapes Go.ChangeAt Go.RowKit Go.Maps

def NoTy (w : World) (i : Nat) (T : TypeId) : Prop := ∀ a f, w.heap[i]? ≠ some (.cells a T f)
def NoMap (w : World) (i : Nat) : Prop := ∀ es c, w.heap[i]? ≠ some (.map es c)
theorem noTy_of {w : World} {i : Nat} {T U : TypeId} {a : Array Value} {f : Nat × Nat} (h : w.heap[i]? = some (.cells a U f)) (hn : U ≠ T) : NoTy w i T := fun b g e => by
  rw [h] at e
  simp at e
  exact hn e.2.1
theorem noTy_map {w : World} {i c : Nat} {es : Array MapEntry} {T : TypeId} (h : w.heap[i]? = some (.map es c)) : NoTy w i T := fun b g e => by rw [h] at e; cases e
theorem noTy_new {w : World} {i : Nat} {T : TypeId} (h : w.heap.size ≤ i) : NoTy w i T := fun a f e => by
  have := (Array.getElem?_eq_some_iff.1 e).1
  omega
theorem noMap_of {w : World} {i : Nat} {U : TypeId} {a : Array Value} {f : Nat × Nat} (h : w.heap[i]? = some (.cells a U f)) : NoMap w i := fun es c e => by rw [h] at e; cases e
theorem own_tyC {w : World} {T : TypeId} {base size n : Nat} {v : Value} {xs : List Value} (h : w.ownsRow base T size v n xs) {k : Nat} (hk : v.ownBlock = some k) : base ≤ k ∧ ∃ cur, w.heap[k]? = some (.cells cur T (0, 0)) := by
  rcases h.2 with ⟨e, _⟩ | ⟨g, cap, cur, e, hb, hg, _⟩
  · subst e; cases hk
  · subst e
    obtain rfl : g = k := by simpa [Value.ownBlock] using hk
    exact ⟨hb, cur, hg⟩
theorem fr2_no {w : World} {B i : Nat} (h : Fr2 w B) (hn : NoTy w i 58) : B ≠ i := by
  rintro rfl
  obtain ⟨cur, h⟩ := h
  exact hn _ _ h
theorem Fam.ty {W w w' : World} {N k : Nat} {Q : Nat → Nat} {M : Nat → Option Nat} {σ : Nat → Int → Option MO} {Z : Nat → Prop} (F : Fam W w N k Q M σ) (K : Kx Z w w') (hZ : ∀ i, Z i → W.heap.size ≤ i ∧ NoTy w i 105 ∧ NoTy w i 58 ∧ NoMap w i) : Fam W w' N k Q M σ :=
  ⟨fun j hj => mdAt_ty (F.md j hj) K (fun h => (hZ _ h).2.1 _ _ (F.md j hj).1) (fun m hm h => by
    obtain ⟨D, o, -⟩ := (F.md j hj).2.2 m hm
    obtain ⟨es, cl, hh⟩ := ownsMap_heap o
    exact (hZ _ h).2.2.2 _ _ hh) (fun B hf h => fr2_no hf (hZ _ h).2.2.1 rfl), F.hq, F.hm, F.sep, Kx.gr K F.gr (fun b hb => (hZ b hb).1)⟩
theorem Fam.at {W w : World} {N k j : Nat} {Q : Nat → Nat} {M : Nat → Option Nat} {σ : Nat → Int → Option MO} (F : Fam W w N k Q M σ) (hj : j < k) {i : Nat} (h : i = Q j ∨ M j = some i) {T : TypeId} (hT : 105 ≠ T) : NoTy w i T := by
  rcases h with rfl | h
  · exact noTy_of (F.md j hj).1 hT
  · obtain ⟨D, o, -⟩ := (F.md j hj).2.2 i h
    obtain ⟨es, cl, hh⟩ := ownsMap_heap o
    exact noTy_map hh
def chC (c : MChg) : List Value := [.int .i64 c.kd, .int .i64 c.id, .int .i64 c.k, c.v]
def chCs : List MChg → List Value
  | [] => []
  | c :: L => chC c ++ chCs L
theorem chCs_app : ∀ (L L' : List MChg), chCs (L ++ L') = chCs L ++ chCs L'
  | [], _ => rfl
  | c :: L, L' => by show chC c ++ chCs (L ++ L') = (chC c ++ chCs L) ++ chCs L'; rw [chCs_app L L', List.append_assoc]
theorem chCs_one (c : MChg) : chCs [c] = chC c := by show chC c ++ [] = chC c; rw [List.append_nil]
theorem chCs_len : ∀ L : List MChg, (chCs L).length = L.length * 4
  | [] => rfl
  | c :: L => by
    show (chC c ++ chCs L).length = (L.length + 1) * 4
    rw [List.length_append, chCs_len L]
    show 4 + _ = _
    omega
def MChg.nul : MChg := ⟨0, 0, 0, .slice Option.none 0 0, 0, fun _ => 0, fun _ => 0⟩
theorem chCs_get : ∀ (L : List MChg) (i : Nat), i < L.length → (chCs L)[i * 4]? = some (.int .i64 (L.getD i MChg.nul).kd) ∧ (chCs L)[i * 4 + 1]? = some (.int .i64 (L.getD i MChg.nul).id) ∧ (chCs L)[i * 4 + 2]? = some (.int .i64 (L.getD i MChg.nul).k) ∧ (chCs L)[i * 4 + 3]? = some (L.getD i MChg.nul).v
  | [], i, h => absurd h (Nat.not_lt_zero _)
  | c :: L, 0, h => ⟨rfl, rfl, rfl, rfl⟩
  | c :: L, i + 1, h => by
    have ih := chCs_get L i (by simpa using h)
    rw [show (i + 1) * 4 = i * 4 + 1 + 1 + 1 + 1 by omega, show i * 4 + 1 + 1 + 1 + 1 + 1 = (i * 4 + 1) + 1 + 1 + 1 + 1 by omega, show i * 4 + 1 + 1 + 1 + 1 + 2 = (i * 4 + 2) + 1 + 1 + 1 + 1 by omega, show i * 4 + 1 + 1 + 1 + 1 + 3 = (i * 4 + 3) + 1 + 1 + 1 + 1 by omega]
    exact ih
structure ChRow (w : World) (base : Nat) (v : Value) (L : List MChg) : Prop where
  own : w.ownsRow base 50 4 v L.length (chCs L)
  pts : ∀ c, c ∈ L → PtsF w base c.v c.n c.X c.Y ∧ i64R c.id ∧ c.n ≤ 1000
theorem ChRow.ty {Z : Nat → Prop} {a b : World} {base : Nat} {v : Value} {L : List MChg} (h : ChRow a base v L) (K : Kx Z a b) (hZ : ∀ i, Z i → NoTy a i 50 ∧ NoTy a i 58) : ChRow b base v L :=
  ⟨rowOwn_kxS h.own K (fun k hk hs => by
    obtain ⟨-, cur, hc⟩ := own_tyC h.own hk
    exact (hZ k hs).1 _ _ hc), fun c hc => ⟨ptsF_ty (h.pts c hc).1 K (fun B hf hs => fr2_no hf (hZ B hs).2 rfl), (h.pts c hc).2⟩⟩
theorem ChRow.gr {a b : World} {base : Nat} {v : Value} {L : List MChg} (h : ChRow a base v L) (g : Gr a b) : ChRow b base v L := h.ty (Z := fun _ => False) (Kx.of_gr g) (fun _ h => h.elim)
theorem ChRow.nil (w : World) (base : Nat) : ChRow w base (.slice none 0 0) [] := ⟨World.ownsRow_nil _ _ _ _, fun c h => by cases h⟩
theorem ChRow.more {a b c : World} {base : Nat} {v v' : Value} {L : List MChg} {x : MChg} (h : ChRow a base v L) (g : Gr a b) (o : c.ownsRow base 50 4 v' (L.length + 1) (chCs L ++ chC x)) (K : Grown b c v v') (hp : PtsF b base x.v x.n x.X x.Y) (hi : i64R x.id) (hn : x.n ≤ 1000) : ChRow c base v' (L ++ [x]) := by
  have hk : ∀ B, Fr2 b B → ¬ v.ownBlock = some B := fun B hf e => by
    obtain ⟨-, cur, hc⟩ := own_tyC (h.gr g).own e
    exact fr2_no hf (noTy_of hc (by decide)) rfl
  refine ⟨by rw [List.length_append, chCs_app, chCs_one]; exact o, fun y hy => ?_⟩
  rcases List.mem_append.1 hy with e | e
  · exact ⟨ptsF_ty ((h.gr g).pts y e).1 (kx_grown K) hk, (h.pts y e).2⟩
  · obtain rfl := List.mem_singleton.1 e
    exact ⟨ptsF_ty hp (kx_grown K) hk, hi, hn⟩
structure CS where
  kd : Int
  id : Int
  o : MO
def chSem (c : MChg) : CS := ⟨c.kd, c.id, ⟨c.k, c.n, c.X, c.Y⟩⟩
structure StF (W w : World) (N k : Nat) (Q : Nat → Nat) (M : Nat → Option Nat) (σ : Nat → Int → Option MO) (S b j : Nat) (op : Bool) (G : List CS) : Prop where
  fam : Fam W w N k Q M σ
  hb : b < k
  hj : j < k
  hS : W.heap.size ≤ S
  row : ∃ cv L, w.heap[S]? = some (.cells #[.pointer (some ⟨Q b, 0, none⟩), .pointer (some ⟨Q j, 0, none⟩), cv, .bool op] 102 (0, 0)) ∧ ChRow w W.heap.size cv L ∧ L.map chSem = G
section
variable {W w w' : World} {N k : Nat} {Q : Nat → Nat} {M : Nat → Option Nat} {σ : Nat → Int → Option MO} {S b j : Nat} {op : Bool} {G : List CS}
theorem StF.to (F : StF W w N k Q M σ S b j op G) (g : Gr w w') : StF W w' N k Q M σ S b j op G := by
  obtain ⟨f, h1, h2, h3, cv, L, h4, h5, h6⟩ := F
  exact ⟨f.to g, h1, h2, h3, cv, L, heap_kx (S := fun _ => False) (Kx.of_gr g) (fun h => h) h4, h5.gr g, h6⟩
theorem StF.le {N' : Nat} (F : StF W w N k Q M σ S b j op G) (h : N ≤ N') : StF W w N' k Q M σ S b j op G := ⟨F.fam.le h, F.hb, F.hj, F.hS, F.row⟩
theorem StF.as {τ : Nat → Int → Option MO} (F : StF W w N k Q M σ S b j op G) (hσ : ∀ i, i < k → σ i = τ i) : StF W w N k Q M τ S b j op G := ⟨F.fam.as (fun _ _ => rfl) hσ, F.hb, F.hj, F.hS, F.row⟩
theorem StF.done {i c : Nat} {id : Int} {σ' : Int → Option MO} {e : Ending} (F : StF W w N k Q M σ S b j op G) (hi : i < k) (h : MdTo w (Q i) (M i) N id c σ' e w') :
    ∃ o v M', e = .returned v ∧ WErr o w' v id c ∧ (o = modelS ∨ o = changeS) ∧ StF W w' (N + 1) k Q M' (fun a => if a = i then σ' else σ a) S b j op G := by
  have h' := h
  obtain ⟨_, _, _, -, -, -, -, -, K⟩ := h'
  obtain ⟨o, v, M', rfl, hw, ho, f'⟩ := F.fam.done hi h
  obtain ⟨f, h1, h2, h3, cv, L, h4, h5, h6⟩ := F
  exact ⟨o, v, M', rfl, hw, ho, f', h1, h2, h3, cv, L, heap_kx K (fun hs => f.at hi hs (T := 102) (by decide) _ _ h4) h4, h5.ty K (fun x hx => ⟨f.at hi hx (by decide), f.at hi hx (by decide)⟩), h6⟩
theorem StF.put {Z : Nat → Prop} {cv' : Value} {op' : Bool} {L' : List MChg} (F : StF W w N k Q M σ S b j op G) (K : Kx Z w w') (hZ : ∀ i, Z i → i = S ∨ (W.heap.size ≤ i ∧ (w.heap.size ≤ i ∨ ∃ a f, w.heap[i]? = some (.cells a 50 f)))) (h4 : w'.heap[S]? = some (.cells #[.pointer (some ⟨Q b, 0, none⟩), .pointer (some ⟨Q j, 0, none⟩), cv', .bool op'] 102 (0, 0))) (h5 : ChRow w' W.heap.size cv' L') : StF W w' N k Q M σ S b j op' (L'.map chSem) := by
  obtain ⟨f, h1, h2, h3, cv, L, h6, h7, h8⟩ := F
  refine ⟨f.ty K (fun i hi => ?_), h1, h2, h3, cv', L', h4, h5, rfl⟩
  rcases hZ i hi with rfl | ⟨hW, hn | ⟨a, g, hh⟩⟩
  · exact ⟨h3, noTy_of h6 (by decide), noTy_of h6 (by decide), noMap_of h6⟩
  · exact ⟨hW, noTy_new hn, noTy_new hn, fun es c e => by have := (Array.getElem?_eq_some_iff.1 e).1; omega⟩
  · exact ⟨hW, noTy_of hh (by decide), noTy_of hh (by decide), noMap_of hh⟩
end
def doC (op : Bool) (G : List CS) (σ : Int → Option MO) (c : CS) : Nat := if op = false then 11 else if 32 ≤ G.length then 13 else apN σ c.kd c.id c.o.k c.o.n c.o.X c.o.Y
def doS (op : Bool) (G : List CS) (σ : Int → Option MO) (c : CS) : Int → Option MO := if doC op G σ c = 0 then apS σ c.kd c.id c.o.k c.o.n c.o.X c.o.Y else σ
def doG (op : Bool) (G : List CS) (σ : Int → Option MO) (c : CS) : List CS := if doC op G σ c = 0 then G ++ [c] else G
end Go.Proofs.YtpomllpplpalkaaGreatDoor
/- stage: New, ended, Len, End, do -/
namespace Go.Proofs.YtpomllpplpalkaaGreatDoor
set_option linter.unusedVariables false
set_option linter.unusedSimpArgs false
open Go.ChangeShapes Go.WideShapes Go.ChangeAt Go.RowKit Go.Maps

abbrev stageS : ByteArray := ⟨#[115, 116, 97, 103, 101]⟩
theorem st_ended {S : Nat} {a b c : Value} {op : Bool} (W : World) (h : W.heap[S]? = some (.cells #[a, b, c, .bool op] 102 (0, 0))) : Calls Tryz.prog 56 #[.pointer (some ⟨S, 0, none⟩)] W fun e w' => e = .returned (.bool (!op)) ∧ Gr W w' := by
  have c3 : W.cell? ⟨S, 3, none⟩ = some (.bool op) := Hm.cell_of_heap h 3
  have z := World.block_lt_of_cell? _ _ c3
  clear h
  go_enter Tryz.func56, Tryz.ntmps56
  go_wp2_with fail
  go_ret
  exact ⟨rfl, by go_grown⟩
section
variable {W w : World} {N k : Nat} {Q : Nat → Nat} {M : Nat → Option Nat} {σ : Nat → Int → Option MO} {S b j : Nat} {op : Bool} {G : List CS}
theorem st_Len {l : List Int} (F : StF W w N k Q M σ S b j op G) (hl : Ids (σ j) l) : Calls Tryz.prog 18 #[.pointer (some ⟨S, 0, none⟩)] w fun e w' => e = .returned (.int .i64 (l.length : Nat)) ∧ Gr w w' := by
  obtain ⟨cv, L, h, -⟩ := F.row
  have c1 : w.cell? ⟨S, 1, none⟩ = some (.pointer (some ⟨Q j, 0, none⟩)) := Hm.cell_of_heap h 1
  have z := World.block_lt_of_cell? _ _ c1
  have AL := Lib.hid (fun w' (g : Gr w w') => md_lenS hl w' (mdAt_gr (F.fam.md j F.hj) g))
  clear h F hl
  go_enter Tryz.func18, Tryz.ntmps18
  go_wp2_with fail
  go_at_call 28
  refine (AL.out _ (by go_grown)).mono ?_
  rintro e w1 ⟨rfl, g1⟩
  go_wp2_with fail
  go_ret
  exact ⟨rfl, g1⟩
def EndTo (W w : World) (N k : Nat) (Q : Nat → Nat) (M : Nat → Option Nat) (σ : Nat → Int → Option MO) (S b j : Nat) (op : Bool) (G : List CS) (e : Ending) (w' : World) : Prop := ∃ u, e = .returned u ∧ WErr stageS w' u 0 (if op = true then 0 else 11) ∧ StF W w' N k Q M σ S b j false G
set_option maxHeartbeats 1000000 in
set_option maxRecDepth 100000 in
theorem st_End (F : StF W w N k Q M σ S b j op G) : Calls Tryz.prog 13 #[.pointer (some ⟨S, 0, none⟩)] w fun e w' => EndTo W w N k Q M σ S b j op G e w' := by
  obtain ⟨cv, L, h, hr, hL⟩ := F.row
  have HF := Lib.hid F
  have HR := Lib.hid (And.intro hr (And.intro hL h))
  have AE := Lib.hid (fun w' (g : Gr w w') => st_ended w' (heap_kx (S := fun _ => False) (Kx.of_gr g) (fun h => h) h))
  have c3 : w.cell? ⟨S, 3, none⟩ = some (.bool op) := Hm.cell_of_heap h 3
  have f3 := Hm.frozen_of_heap h 3
  have z := World.block_lt_of_cell? _ _ c3
  clear h F hr hL
  go_enter Tryz.func13, Tryz.ntmps13
  go_wp2_with fail
  go_at_call 56
  refine ((AE.out _ (by go_grown))).mono ?_
  rintro e w1 ⟨rfl, hw1⟩
  have gw1 : Gr w w1 := Gr.trans (by go_grown) hw1
  clear hw1
  have d3 := cell_gr gw1 c3
  have e3 := frozen_gr gw1 c3 f3
  have zz := World.block_lt_of_cell? _ _ d3
  clear c3 f3 z
  cases op with
  | false =>
    go_wp2_with fail
    go_at_call 57
    refine (md_fNew stageS 0 11 _).mono ?_
    rintro e w2 ⟨F, rfl, hf, g2⟩
    have HE := Lib.hid (And.intro (faultAt_werr (k := 11) (by decide) hf) (Gr.trans gw1 g2))
    clear hf g2
    go_wp2_with fail
    go_ret
    exact ⟨_, rfl, HE.out.1, HF.out.to HE.out.2⟩
  | true =>
    go_wp2_with fail
    go_ret
    have h1 := heap_kx (S := fun _ => False) (Kx.of_gr gw1) (fun h => h) HR.out.2.2
    have K : Kx (fun i => i = S) w1 (w1.setCell ⟨S, 3, none⟩ (.bool false)) := (Kx.refl (S := fun i => i = S) w1).setCell (p := ⟨S, 3, none⟩) rfl _
    refine ⟨_, rfl, Or.inl ⟨rfl, rfl⟩, ?_⟩
    have := (HF.out.to gw1).put (cv' := cv) (op' := false) (L' := L) K (fun i hi => Or.inl hi) (Hm.heap_set_same h1) ((HR.out.1.gr gw1).ty K (fun i hi => by subst hi; exact ⟨noTy_of h1 (by decide), noTy_of h1 (by decide)⟩))
    rw [HR.out.2.1] at this
    exact this
def NewTo (W w : World) (N k : Nat) (Q : Nat → Nat) (σ : Nat → Int → Option MO) (s : Int → Option MO) (e : Ending) (w' : World) : Prop := ∃ S Q' M', e = .returned (.pointer (some ⟨S, 0, none⟩)) ∧ (∀ i, i < k → Q' i = Q i) ∧ StF W w' N (k + 2) Q' M' (fun i => if i < k then σ i else s) S k (k + 1) true []
set_option maxHeartbeats 1000000 in
set_option maxRecDepth 100000 in
theorem st_mk {C1 C2 : Nat} {M1 M2 : Option Nat} {w1 w2 : World} {s : Int → Option MO} (F : Fam W w N k Q M σ) (h1 : MdAt w1 C1 M1 s N) (hC1 : w.heap.size ≤ C1) (hM1 : ∀ m, M1 = some m → w.heap.size ≤ m) (g1 : Gr w w1) (h2 : MdAt w2 C2 M2 s N) (hC2 : w1.heap.size ≤ C2) (hM2 : ∀ m, M2 = some m → w1.heap.size ≤ m) (g2 : Gr w1 w2) :
    NewTo W w N k Q σ s (.returned (.pointer (some ⟨w2.heap.size, 0, none⟩))) (w2.alloc (.cells #[.pointer (some ⟨C1, 0, none⟩), .pointer (some ⟨C2, 0, none⟩), .slice none 0 0, .bool true] 102)) := by
  have F2 := ((F.more h1 hC1 hM1 g1).more h2 hC2 hM2 g2).to ((Below.refl _ _).alloc (Nat.le_refl _) (.cells #[.pointer (some ⟨C1, 0, none⟩), .pointer (some ⟨C2, 0, none⟩), .slice none 0 0, .bool true] 102))
  refine ⟨w2.heap.size, _, _, rfl, fun i hi => ?_, F2.as (fun i hi => rfl) (fun i hi => ?_), by omega, by omega, (Gr.trans F.gr (Gr.trans g1 g2)).size, .slice none 0 0, [], ?_, ChRow.nil _ _, rfl⟩
  · simp only [show ¬ i = k + 1 by omega, show ¬ i = k by omega, if_false]
  · by_cases e1 : i = k + 1
    · subst e1
      simp only [if_true, show ¬ k + 1 < k by omega, if_false]
    · by_cases e2 : i = k
      · subst e2
        simp only [if_true, show ¬ i = i + 1 by omega, Nat.lt_irrefl, if_false]
      · simp only [e1, e2, if_false, show i < k by omega, if_true]
  · simp only [show ¬ k = k + 1 by omega, if_false, if_true]
    show (w2.heap.push _)[w2.heap.size]? = _
    exact Array.getElem?_push_size
set_option maxHeartbeats 1000000 in
set_option maxRecDepth 100000 in
theorem st_New {b : Nat} (hb : b < k) (F : Fam W w N k Q M σ) : Calls Tryz.prog 11 #[.pointer (some ⟨Q b, 0, none⟩)] w fun e w' => NewTo W w N k Q σ (σ b) e w' := by
  have HF := Lib.hid F
  have AC := Lib.hid (fun w' (g : Gr w w') => md_Copy w' (mdAt_gr (F.md b hb) g))
  obtain ⟨q, hq⟩ : ∃ q, q = Q b := ⟨_, rfl⟩
  rw [← hq] at AC ⊢
  clear F hq hb
  go_enter Tryz.func11, Tryz.ntmps11
  go_wp2_with fail
  go_at_call 25
  refine (AC.out _ (by go_grown)).mono ?_
  rintro e w1 ⟨C1, M1, rfl, a1, a2, a3, g1⟩
  have H1 := Lib.hid (And.intro a1 (And.intro a2 (And.intro a3 g1)))
  clear a1 a2 a3
  go_wp2_with fail
  go_at_call 25
  refine (AC.out _ g1).mono ?_
  rintro e w2 ⟨C2, M2, rfl, b1, b2, b3, g2⟩
  have H2 := Lib.hid (And.intro b1 (And.intro b2 (And.intro b3 g2)))
  clear b1 b2 b3
  go_wp2_with fail
  go_ret
  exact st_mk HF.out H1.out.2.2.1 H1.out.1 H1.out.2.1 H1.out.2.2.2 H2.out.2.2.1 H2.out.1 H2.out.2.1 H2.out.2.2.2
def New0To (W w : World) (e : Ending) (w' : World) : Prop := ∃ S Q' M', e = .returned (.pointer (some ⟨S, 0, none⟩)) ∧ StF W w' 0 3 Q' M' (fun _ _ => none) S 1 2 true []
set_option maxHeartbeats 1000000 in
set_option maxRecDepth 100000 in
theorem st_New0 (g : Gr W w) : Calls Tryz.prog 11 #[.pointer none] w fun e w' => New0To W w e w' := by
  have HG := Lib.hid g
  clear g
  go_enter Tryz.func11, Tryz.ntmps11
  go_wp2_with fail
  go_at_call 12
  refine (md_New w).mono ?_
  rintro e w0 ⟨rfl, e0⟩
  have F0 := (Fam.none (W := W) (w := w) (Q := fun _ => 0) (M := fun _ => none) (σ := fun _ _ => none) (N := 0) HG.out).more (w' := w0) (C := w.heap.size) (MC := none) (τ := fun _ => none) (by rw [e0]; exact mdAt_new (fun _ _ => rfl) (fun m h => (by cases h))) (Nat.le_refl _) (fun m h => (by cases h)) (by rw [e0]; exact (Below.refl _ _).alloc (Nat.le_refl _) _)
  have AC := Lib.hid (fun w' (g : Gr w0 w') => md_Copy (Q := w.heap.size) w' (mdAt_gr (F0.md 0 (by decide)) g))
  have HF := Lib.hid F0
  clear F0 e0
  go_wp2_with fail
  go_at_call 25
  refine (AC.out _ (by go_grown)).mono ?_
  rintro e w1 ⟨C1, M1, rfl, a1, a2, a3, g1⟩
  have H1 := Lib.hid (And.intro a1 (And.intro a2 (And.intro a3 g1)))
  clear a1 a2 a3
  go_wp2_with fail
  go_at_call 25
  refine (AC.out _ g1).mono ?_
  rintro e w2 ⟨C2, M2, rfl, b1, b2, b3, g2⟩
  have H2 := Lib.hid (And.intro b1 (And.intro b2 (And.intro b3 g2)))
  clear b1 b2 b3
  go_wp2_with fail
  go_ret
  obtain ⟨S, Q', M', e, -, F⟩ := st_mk HF.out H1.out.2.2.1 H1.out.1 H1.out.2.1 H1.out.2.2.2 H2.out.2.2.1 H2.out.1 H2.out.2.1 H2.out.2.2.2
  exact ⟨S, Q', M', e, F.as (fun i hi => by
    rcases (by omega : i = 0 ∨ i = 1 ∨ i = 2) with rfl | rfl | rfl <;> rfl)⟩
end
end Go.Proofs.YtpomllpplpalkaaGreatDoor
/- stage: do, Put, Del -/
namespace Go.Proofs.YtpomllpplpalkaaGreatDoor
set_option linter.unusedVariables false
set_option linter.unusedSimpArgs false
open Go.ChangeShapes Go.WideShapes Go.ChangeAt Go.RowKit Go.Maps

theorem cells_newT (w : World) (arr : Array Value) (t : TypeId) (l : List Value) (e : arr.toList = l) : ∀ j u, l[j]? = some u → (w.alloc (.cells arr t)).cell? ((⟨w.heap.size, 0, none⟩ : Addr).add j) = some u := fun j u hj => by
  have hb : (w.alloc (.cells arr t)).heap[w.heap.size]? = some (.cells arr t (0, 0)) := by show (w.heap.push _)[w.heap.size]? = _; exact Array.getElem?_push_size
  rw [addAt_w, Nat.zero_add, Hm.cell_of_heap hb j, ← hj, ← e]
  simp
theorem apN_n {s : Int → Option MO} {kd id k : Int} {n : Nat} {X Y : Nat → Int} (h : apN s kd id k n X Y = 0) : n ≤ 1000 := by
  have hc : chgC kd id k n X Y = 0 := by
    by_cases e : chgC kd id k n X Y = 0
    · exact e
    · unfold apN at h; rw [if_pos e] at h; exact absurd h e
  rcases (chgC_ok hc).2.2 with ⟨-, ho⟩ | ⟨-, -, e⟩
  · have := objC_near ho; omega
  · omega
section
variable {W w : World} {N k : Nat} {Q : Nat → Nat} {M : Nat → Option Nat} {σ : Nat → Int → Option MO} {S b j : Nat} {op : Bool} {G : List CS}
def DoTo (W : World) (N k : Nat) (Q : Nat → Nat) (σ : Nat → Int → Option MO) (S b j : Nat) (op : Bool) (G : List CS) (c : CS) (e : Ending) (w' : World) : Prop := ∃ u M', e = .returned u ∧ WErr stageS w' u c.id (doC op G (σ j) c) ∧ StF W w' (N + 1) k Q M' (fun a => if a = j then doS op G (σ j) c else σ a) S b j op (doG op G (σ j) c)
theorem do_no (F : StF W w N k Q M σ S b j op G) {c : CS} {w' : World} (g : Gr w w') (h : doC op G (σ j) c ≠ 0) {F' : Nat} {op' : ByteArray} (hw : WErr stageS w' (.iface 108 (.pointer (some ⟨F', 0, none⟩))) c.id (doC op G (σ j) c)) : DoTo W N k Q σ S b j op G c (.returned (.iface 108 (.pointer (some ⟨F', 0, none⟩)))) w' := by
  have e1 : doS op G (σ j) c = σ j := if_neg h
  have e2 : doG op G (σ j) c = G := if_neg h
  refine ⟨_, M, rfl, hw, ?_⟩
  rw [e1, e2]
  exact ((F.to g).le (Nat.le_succ _)).as (fun i hi => by
    by_cases e : i = j
    · subst e; simp only [if_true]
    · simp only [e, if_false])
set_option maxHeartbeats 4000000 in
set_option maxRecDepth 100000 in
theorem st_do {kd id kk : Int} {n : Nat} {X Y : Nat → Int} {v : Value} (hi : i64R id) (hN : N < 1000000) (F : StF W w N k Q M σ S b j op G) (hG : G.length ≤ 1000) (h : PtsF w W.heap.size v n X Y) :
    Calls Tryz.prog 59 #[.pointer (some ⟨S, 0, none⟩), .agg #[.int .i64 kd, .int .i64 id, .int .i64 kk, v]] w fun e w' => DoTo W N k Q σ S b j op G ⟨kd, id, ⟨kk, n, X, Y⟩⟩ e w' := by
  obtain ⟨i0, hi0, hz0, hz1, hz2⟩ := info_parts (P := Tryz.prog) (e := 50) (z := .agg #[.int .i64 0, .int .i64 0, .int .i64 0, .slice none 0 0]) (size := 4) (bytes := 48) (by kernel_rfl)
  have HI := Lib.hid (And.intro hi0 (And.intro hz0 (And.intro hz1 hz2)))
  clear hi0 hz0 hz1 hz2
  obtain ⟨cv, L, hh, hr, hL⟩ := F.row
  have hLG : L.length = G.length := by rw [← hL, List.length_map]
  have HF := Lib.hid F
  have HR := Lib.hid (And.intro hr (And.intro hL hh))
  have HP := Lib.hid h
  have HZ := Lib.hid hi
  have hSW := F.hS
  have AE := Lib.hid (fun w' (g : Gr w w') => st_ended w' (heap_kx (S := fun _ => False) (Kx.of_gr g) (fun h => h) hh))
  have c1 : w.cell? ⟨S, 1, none⟩ = some (.pointer (some ⟨Q j, 0, none⟩)) := Hm.cell_of_heap hh 1
  have c2 : w.cell? ⟨S, 2, none⟩ = some cv := Hm.cell_of_heap hh 2
  have f2 := Hm.frozen_of_heap hh 2
  have zS := World.block_lt_of_cell? _ _ c2
  obtain ⟨ad0, cp0, ecv, hcp, hcp2⟩ := own_any hr.own
  obtain ⟨ad, cap, _, _, rfl, -⟩ := h.1
  clear h hi hr hL hh F
  go_enter Tryz.func59, Tryz.ntmps59
  go_wp2_with fail
  go_at_call 56
  refine ((AE.out _ (by go_grown))).mono ?_
  rintro e w1 ⟨rfl, hw1⟩
  have cw1_0_0 : w1.cell? ⟨w.heap.size, 0, none⟩ = some (.int .i64 kd) := cell_gr hw1 (by go_simp)
  have cw1_0_1 : w1.cell? ⟨w.heap.size, 1, none⟩ = some (.int .i64 id) := cell_gr hw1 (by go_simp)
  have cw1_0_2 : w1.cell? ⟨w.heap.size, 2, none⟩ = some (.int .i64 kk) := cell_gr hw1 (by go_simp)
  have cw1_0_3 : w1.cell? ⟨w.heap.size, 3, none⟩ = some (.slice ad n cap) := cell_gr hw1 (by go_simp)
  have zw1_0 : w.heap.size < w1.heap.size := World.block_lt_of_cell? _ _ cw1_0_0
  have gw1 : Gr w w1 := Gr.trans (by go_grown) hw1
  clear hw1
  have d1 := cell_gr gw1 c1
  have d2 := cell_gr gw1 c2
  have e2 := frozen_gr gw1 c2 f2
  have zS1 := World.block_lt_of_cell? _ _ d2
  clear c1 c2 f2 zS AE
  cases op with
  | false =>
    go_wp2_with fail
    go_at_call 57
    refine (md_fNew stageS id 11 _).mono ?_
    rintro e w2 ⟨F', rfl, hf, g2⟩
    have HE := Lib.hid (And.intro (faultAt_werr (k := 11) (by decide) hf) (Gr.trans gw1 g2))
    clear hf g2
    go_wp2_with fail
    go_ret
    exact do_no (op' := stageS) HF.out HE.out.2 (by show (11 : Nat) ≠ 0; decide) HE.out.1
  | true =>
    subst ecv
    have hLi : (L.length : Int) ≤ 1000 := by omega
    have HLG := Lib.hid hLG
    clear hLG
    by_cases h32 : 32 ≤ L.length
    · have t1 : decide ((32 : Int) ≤ (L.length : Int)) = true := decide_eq_true (by omega)
      have t2 : decide (32 ≤ L.length) = true := decide_eq_true h32
      have HC : Hid (doC true G (σ j) ⟨kd, id, ⟨kk, n, X, Y⟩⟩ = 13) := Lib.hid (by unfold doC; rw [if_neg (by decide), if_pos (by have := HLG.out; omega)])
      go_wp2_with fail
      go_at_call 57
      refine (md_fNew stageS id 13 _).mono ?_
      rintro e w2 ⟨F', rfl, hf, g2⟩
      have HE := Lib.hid (And.intro (faultAt_werr (k := 13) (by decide) hf) (Gr.trans gw1 g2))
      clear hf g2
      go_wp2_with fail
      go_ret
      exact do_no (op' := stageS) HF.out HE.out.2 (by rw [HC.out]; decide) (by rw [HC.out]; exact HE.out.1)
    · have t1 : decide ((32 : Int) ≤ (L.length : Int)) = false := decide_eq_false (by omega)
      have t2 : decide (32 ≤ L.length) = false := decide_eq_false h32
      have HC : Hid (doC true G (σ j) ⟨kd, id, ⟨kk, n, X, Y⟩⟩ = apN (σ j) kd id kk n X Y) := Lib.hid (by unfold doC; rw [if_neg (by decide), if_neg (by have := HLG.out; omega)])
      have HF1 := Lib.hid (HF.out.to gw1)
      have HG1 := Lib.hid gw1
      have AA := Lib.hid (fun w' (g : Gr w1 w') => md_Apply (kd := kd) (k := kk) (v := .slice ad n cap) HZ.out hN w' ((HF1.out.to g).fam.md j HF.out.hj) (pts_gr HP.out.1 (Gr.trans HG1.out g)))
      have hlt : Q j < w.heap.size := mdAt_ltQ (HF.out.fam.md j HF.out.hj)
      have hltM : ∀ x, M j = some x → x < w.heap.size := fun x hx => mdAt_ltM (HF.out.fam.md j HF.out.hj) hx
      have HLT := Lib.hid (And.intro hlt hltM)
      obtain ⟨q, hq⟩ : ∃ q, q = Q j := ⟨_, rfl⟩
      rw [← hq] at d1 AA hlt
      have HQ := Lib.hid hq
      clear hltM hq gw1
      have gw1 := HG1.out
      go_wp2_with fail
      try simp only [List.append]
      refine Od.wp_region_ordT 5 [(0, false), (1, false), (2, false), (3, false), (4, false)] (by kernel_rfl) (by kernel_rfl) ?_
      intro w2 hw2 KQ hKQ
      have s1 := cell_gr hw2 d1
      have s2 := cell_gr hw2 d2
      have fs2 := frozen_gr hw2 d2 e2
      have b0 : w2.cell? ⟨w.heap.size, 0, none⟩ = some (.int .i64 kd) := cell_gr hw2 cw1_0_0
      have b1 : w2.cell? ⟨w.heap.size, 1, none⟩ = some (.int .i64 id) := cell_gr hw2 cw1_0_1
      have b2 : w2.cell? ⟨w.heap.size, 2, none⟩ = some (.int .i64 kk) := cell_gr hw2 cw1_0_2
      have b3 : w2.cell? ⟨w.heap.size, 3, none⟩ = some (.slice ad n cap) := cell_gr hw2 cw1_0_3
      have zS2 := World.block_lt_of_cell? _ _ s2
      have zb2 := World.block_lt_of_cell? _ _ b0
      have HG2 := Lib.hid hw2
      clear hw2 d1 d2 e2 zS1 cw1_0_0 cw1_0_1 cw1_0_2 cw1_0_3 zw1_0
      repeat (first | (refine Od.wpO_skip (by simp only [List.getElem?_toArray, List.getElem?_cons_succ, List.getElem?_cons_zero] <;> rfl) rfl ?_; simp only [Act.put, List.setIfInBounds_toArray, List.set_cons_zero, List.set_cons_succ]) | (refine Od.wpO_pure (by simp only [List.getElem?_toArray, List.getElem?_cons_succ, List.getElem?_cons_zero] <;> rfl) rfl ?_; apply Exists.intro; refine ⟨?_, ?_⟩; (· intro wx gx; obtain ⟨mx, rfl⟩ := spread_of_gr gx; clear gx; all_goals (apply Od.pAt_of_quiet; intro K hK; go_big_quiet_op; first | exact hK _ rfl | (apply Exists.intro; refine ⟨fun _ => ?_, ?_⟩; (· fail); exact hK _ rfl))); try simp only [Act.put, List.setIfInBounds_toArray, List.set_cons_zero, List.set_cons_succ]))
      refine Od.wpO_nil (hKQ _ _ ?_)
      clear hKQ KQ
      go_wp2_with fail
      go_at_call 27
      refine (AA.out _ HG2.out).mono ?_
      rintro e w3 h3
      have h3' := h3
      obtain ⟨_, _, _, -, -, -, -, -, K3⟩ := h3'
      rw [HQ.out] at h3
      obtain ⟨o3, u, M3, rfl, hu, ho3, F3⟩ := (HF1.out.to HG2.out).done HF.out.hj h3
      have hnS : ∀ i, (i = q ∨ M j = some i) → i ≠ S ∧ i ≠ w.heap.size := fun i hi => ⟨by
        rw [HQ.out] at hi
        rintro rfl
        obtain ⟨cv', L', hh', -⟩ := HF.out.row
        exact HF.out.fam.at HF.out.hj hi (T := 102) (by decide) _ _ hh', by
        rcases hi with e | e
        · omega
        · have := HLT.out.2 i e; omega⟩
      have k2 : w3.cell? ⟨S, 2, none⟩ = some (.slice ad0 L.length cp0) := cell_kx K3 (p := ⟨S, 2, none⟩) (fun e => (hnS _ e).1 rfl) s2
      have kf2 := frozen_kx (p := ⟨S, 2, none⟩) K3 (fun e => (hnS _ e).1 rfl) s2 fs2
      have a0 := cell_kx K3 (p := ⟨w.heap.size, 0, none⟩) (fun e => (hnS _ e).2 rfl) b0
      have a1 := cell_kx K3 (p := ⟨w.heap.size, 1, none⟩) (fun e => (hnS _ e).2 rfl) b1
      have a2 := cell_kx K3 (p := ⟨w.heap.size, 2, none⟩) (fun e => (hnS _ e).2 rfl) b2
      have a3 := cell_kx K3 (p := ⟨w.heap.size, 3, none⟩) (fun e => (hnS _ e).2 rfl) b3
      have zS3 := World.block_lt_of_cell? _ _ k2
      have zb3 := World.block_lt_of_cell? _ _ a0
      have HF3 := Lib.hid F3
      have HH3 : Hid (w3.heap[S]? = some (.cells #[.pointer (some ⟨Q b, 0, none⟩), .pointer (some ⟨Q j, 0, none⟩), .slice ad0 L.length cp0, .bool true] 102 (0, 0))) := Lib.hid (heap_kx K3 (fun e => (hnS _ e).1 rfl) (heap_kx (S := fun _ => False) (Kx.of_gr (Gr.trans HG1.out HG2.out)) (fun h => h) HR.out.2.2))
      have HP3 : Hid (PtsF w3 W.heap.size (.slice ad n cap) n X Y) := Lib.hid (ptsF_ty (ptsF_gr HP.out (Gr.trans HG1.out HG2.out)) K3 (fun B hf e => by
        rw [HQ.out] at e
        exact fr2_no hf ((HF1.out.to HG2.out).fam.at HF.out.hj e (by decide)) rfl))
      have HR3 : Hid (ChRow w3 W.heap.size (.slice ad0 L.length cp0) L) := Lib.hid ((HR.out.1.gr (Gr.trans HG1.out HG2.out)).ty K3 (fun i e => by
        rw [HQ.out] at e
        exact ⟨(HF1.out.to HG2.out).fam.at HF.out.hj e (by decide), (HF1.out.to HG2.out).fam.at HF.out.hj e (by decide)⟩))
      have hs23 := K3.size
      have hs13 := (Gr.trans HG1.out HG2.out).size
      clear b0 b1 b2 b3 s1 s2 fs2 zS2 zb2 K3 F3 hnS h3 AA
      rcases hu with ⟨rfl, hc⟩ | ⟨B', x, d, rfl, k1, k15, h4, h5, h6, h7⟩
      · have HN := Lib.hid (apN_n hc)
        have HC2 : Hid (doC true G (σ j) ⟨kd, id, ⟨kk, n, X, Y⟩⟩ = 0) := Lib.hid (by rw [HC.out]; exact hc)
        have gw3 : Gr W w3 := HF3.out.fam.gr
        have hbx : W.heap.size ≤ w.heap.size := HF.out.fam.gr.size
        have hlen : L.length + 1 ≤ 33 := by omega
        have HGK : Hid (∀ k, (Value.slice ad0 L.length cp0).ownBlock = some k → W.heap.size ≤ k ∧ k ≠ w.heap.size ∧ k ≠ S) := Lib.hid (fun k hk => ⟨(World.ownsRow.lt HR.out.1.own k hk).1, Nat.ne_of_lt (World.ownsRow.lt HR.out.1.own k hk).2, fun e => by
          obtain ⟨-, cur, hc⟩ := own_tyC HR.out.1.own hk
          rw [e, HR.out.2.2] at hc
          simp at hc⟩)
        clear hc
        go_wp2_with fail
        try simp only [List.append]
        refine Oe.wp_region_ordT (R := Kx (fun k => W.heap.size ≤ k ∧ k ≠ w.heap.size ∧ k ≠ S)) 8 [(0, false), (1, false), (2, false), (3, false), (4, false), (5, false), (6, true), (7, true)] (by kernel_rfl) (by kernel_rfl) ?_
        intro w4 hw4 KQ hKQ
        have hhw4 := Kx.of_gr (S := (fun k => W.heap.size ≤ k ∧ k ≠ w.heap.size ∧ k ≠ S)) hw4
        have cw4_0_0 : w4.cell? ⟨w.heap.size, 0, none⟩ = some (.int .i64 kd) := cell_kx hhw4 (by show ¬ (W.heap.size ≤ w.heap.size ∧ w.heap.size ≠ w.heap.size ∧ w.heap.size ≠ S); omega) (by go_simp)
        have cw4_0_1 : w4.cell? ⟨w.heap.size, 1, none⟩ = some (.int .i64 id) := cell_kx hhw4 (by show ¬ (W.heap.size ≤ w.heap.size ∧ w.heap.size ≠ w.heap.size ∧ w.heap.size ≠ S); omega) (by go_simp)
        have cw4_0_2 : w4.cell? ⟨w.heap.size, 2, none⟩ = some (.int .i64 kk) := cell_kx hhw4 (by show ¬ (W.heap.size ≤ w.heap.size ∧ w.heap.size ≠ w.heap.size ∧ w.heap.size ≠ S); omega) (by go_simp)
        have cw4_0_3 : w4.cell? ⟨w.heap.size, 3, none⟩ = some (.slice ad n cap) := cell_kx hhw4 (by show ¬ (W.heap.size ≤ w.heap.size ∧ w.heap.size ≠ w.heap.size ∧ w.heap.size ≠ S); omega) (by go_simp)
        have zw4_0 : w.heap.size < w4.heap.size := World.block_lt_of_cell? _ _ cw4_0_0
        have cw4_1_0 : w4.cell? ⟨S, 2, none⟩ = some (.slice ad0 L.length cp0) := cell_kx hhw4 (by show ¬ (W.heap.size ≤ S ∧ S ≠ w.heap.size ∧ S ≠ S); omega) (by go_simp)
        have zw4_1 : S < w4.heap.size := World.block_lt_of_cell? _ _ cw4_1_0
        have gw4 : Gr W w4 := Kx.gr hhw4 (by have gg := gw3; have gs := gg.size; go_grown) (fun k hk => by have hk2 : W.heap.size ≤ k ∧ k ≠ w.heap.size ∧ k ≠ S := hk; omega)
        have sw4 := hhw4.size
        clear gw3
        clear hhw4
        repeat (first | (refine Oe.wpO_skip (by simp only [List.getElem?_toArray, List.getElem?_cons_succ, List.getElem?_cons_zero] <;> rfl) rfl ?_; simp only [Act.put, List.setIfInBounds_toArray, List.set_cons_zero, List.set_cons_succ]) | (refine Oe.wpO_pure (by simp only [List.getElem?_toArray, List.getElem?_cons_succ, List.getElem?_cons_zero] <;> rfl) rfl ?_; apply Exists.intro; refine ⟨?_, ?_⟩; (· intro wx gx; have cx_0_0 : wx.cell? ⟨w.heap.size, 0, none⟩ = some (.int .i64 kd) := cell_kx gx (by show ¬ (W.heap.size ≤ w.heap.size ∧ w.heap.size ≠ w.heap.size ∧ w.heap.size ≠ S); omega) cw4_0_0; have cx_0_1 : wx.cell? ⟨w.heap.size, 1, none⟩ = some (.int .i64 id) := cell_kx gx (by show ¬ (W.heap.size ≤ w.heap.size ∧ w.heap.size ≠ w.heap.size ∧ w.heap.size ≠ S); omega) cw4_0_1; have cx_0_2 : wx.cell? ⟨w.heap.size, 2, none⟩ = some (.int .i64 kk) := cell_kx gx (by show ¬ (W.heap.size ≤ w.heap.size ∧ w.heap.size ≠ w.heap.size ∧ w.heap.size ≠ S); omega) cw4_0_2; have cx_0_3 : wx.cell? ⟨w.heap.size, 3, none⟩ = some (.slice ad n cap) := cell_kx gx (by show ¬ (W.heap.size ≤ w.heap.size ∧ w.heap.size ≠ w.heap.size ∧ w.heap.size ≠ S); omega) cw4_0_3; have zx_0 : w.heap.size < wx.heap.size := World.block_lt_of_cell? _ _ cx_0_0; have cx_1_0 : wx.cell? ⟨S, 2, none⟩ = some (.slice ad0 L.length cp0) := cell_kx gx (by show ¬ (W.heap.size ≤ S ∧ S ≠ w.heap.size ∧ S ≠ S); omega) cw4_1_0; have zx_1 : S < wx.heap.size := World.block_lt_of_cell? _ _ cx_1_0; clear gx; all_goals (apply Oe.pAt_of_quiet; intro K hK; go_big_quiet_op; first | exact hK _ rfl | (apply Exists.intro; refine ⟨fun _ => ?_, ?_⟩; (· fail); exact hK _ rfl))); try simp only [Act.put, List.setIfInBounds_toArray, List.set_cons_zero, List.set_cons_succ]))
        refine Oe.wpO_call (by simp only [List.getElem?_toArray, List.getElem?_cons_succ, List.getElem?_cons_zero] <;> rfl) rfl ?_
        intro QS hQS
        go_wp2_with fail
        first | (apply Exists.intro; refine ⟨?_, Kx.of_gr (by go_grown), ?_⟩; (· simp only [Act.put, List.setIfInBounds_toArray, List.set_cons_zero, List.set_cons_succ]; rfl)) | (refine ⟨Kx.of_gr (by go_grown), ?_⟩)
        generalize hhw5 : (w4.alloc (.cells #[.int .i64 kd, .int .i64 id, .int .i64 kk, .slice ad n cap] 50)) = w5
        have hw5 : Gr w4 w5 := by subst hhw5; go_grown
        have cw5_0_0 : w5.cell? ⟨w.heap.size, 0, none⟩ = some (.int .i64 kd) := by subst hhw5; go_simp
        have cw5_0_1 : w5.cell? ⟨w.heap.size, 1, none⟩ = some (.int .i64 id) := by subst hhw5; go_simp
        have cw5_0_2 : w5.cell? ⟨w.heap.size, 2, none⟩ = some (.int .i64 kk) := by subst hhw5; go_simp
        have cw5_0_3 : w5.cell? ⟨w.heap.size, 3, none⟩ = some (.slice ad n cap) := by subst hhw5; go_simp
        have zw5_0 : w.heap.size < w5.heap.size := World.block_lt_of_cell? _ _ cw5_0_0
        have cw5_1_0 : w5.cell? ⟨S, 2, none⟩ = some (.slice ad0 L.length cp0) := by subst hhw5; go_simp
        have zw5_1 : S < w5.heap.size := World.block_lt_of_cell? _ _ cw5_1_0
        have gw5 : Gr W w5 := Gr.trans (by have gg := gw4; have gs := gg.size; go_grown) hw5
        have sw5 := hw5.size
        have HW5 : Hid (Gr w4 w5 ∧ ∀ j u, [Value.int .i64 kd, .int .i64 id, .int .i64 kk, .slice ad n cap][j]? = some u → w5.cell? ((⟨w4.heap.size, 0, none⟩ : Addr).add j) = some u) := Lib.hid (by subst hhw5; exact ⟨(Below.refl _ _).alloc (Nat.le_refl _) _, cells_newT _ _ _ _ rfl⟩)
        clear hhw5 gw4 zw4_0 cw4_0_0 cw4_0_1 cw4_0_2 cw4_0_3 zw4_1 cw4_1_0
        try simp only [Act.put, List.setIfInBounds_toArray, List.set_cons_zero, List.set_cons_succ]
        repeat (first | (refine Oe.wpO_skip (by simp only [List.getElem?_toArray, List.getElem?_cons_succ, List.getElem?_cons_zero] <;> rfl) rfl ?_; simp only [Act.put, List.setIfInBounds_toArray, List.set_cons_zero, List.set_cons_succ]) | (refine Oe.wpO_pure (by simp only [List.getElem?_toArray, List.getElem?_cons_succ, List.getElem?_cons_zero] <;> rfl) rfl ?_; apply Exists.intro; refine ⟨?_, ?_⟩; (· intro wx gx; have cx_0_0 : wx.cell? ⟨w.heap.size, 0, none⟩ = some (.int .i64 kd) := cell_kx gx (by show ¬ (W.heap.size ≤ w.heap.size ∧ w.heap.size ≠ w.heap.size ∧ w.heap.size ≠ S); omega) cw5_0_0; have cx_0_1 : wx.cell? ⟨w.heap.size, 1, none⟩ = some (.int .i64 id) := cell_kx gx (by show ¬ (W.heap.size ≤ w.heap.size ∧ w.heap.size ≠ w.heap.size ∧ w.heap.size ≠ S); omega) cw5_0_1; have cx_0_2 : wx.cell? ⟨w.heap.size, 2, none⟩ = some (.int .i64 kk) := cell_kx gx (by show ¬ (W.heap.size ≤ w.heap.size ∧ w.heap.size ≠ w.heap.size ∧ w.heap.size ≠ S); omega) cw5_0_2; have cx_0_3 : wx.cell? ⟨w.heap.size, 3, none⟩ = some (.slice ad n cap) := cell_kx gx (by show ¬ (W.heap.size ≤ w.heap.size ∧ w.heap.size ≠ w.heap.size ∧ w.heap.size ≠ S); omega) cw5_0_3; have zx_0 : w.heap.size < wx.heap.size := World.block_lt_of_cell? _ _ cx_0_0; have cx_1_0 : wx.cell? ⟨S, 2, none⟩ = some (.slice ad0 L.length cp0) := cell_kx gx (by show ¬ (W.heap.size ≤ S ∧ S ≠ w.heap.size ∧ S ≠ S); omega) cw5_1_0; have zx_1 : S < wx.heap.size := World.block_lt_of_cell? _ _ cx_1_0; clear gx; all_goals (apply Oe.pAt_of_quiet; intro K hK; go_big_quiet_op; first | exact hK _ rfl | (apply Exists.intro; refine ⟨fun _ => ?_, ?_⟩; (· fail); exact hK _ rfl))); try simp only [Act.put, List.setIfInBounds_toArray, List.set_cons_zero, List.set_cons_succ]))
        refine Oe.wpO_call (by simp only [List.getElem?_toArray, List.getElem?_cons_succ, List.getElem?_cons_zero] <;> rfl) rfl ?_
        intro QS hQS
        refine (wpList_append_own2 _ rfl (.tmp 41) (.tmp 43) 36 rfl W.heap.size 50 i0 (.agg #[.int .i64 0, .int .i64 0, .int .i64 0, .slice none 0 0]) 4 48 Tryz.underlying36 HI.out.1 HI.out.2.1 HI.out.2.2.1 HI.out.2.2.2 rfl (by decide) (.slice ad0 L.length cp0) L.length (chCs L) rfl (rowOwn_gr HR3.out.own (Gr.trans hw4 HW5.out.1)) ⟨w4.heap.size, 0, none⟩ 1 1 [.int .i64 kd, .int .i64 id, .int .i64 kk, .slice ad n cap] rfl rfl HW5.out.2 (by intro u hu; simp only [List.mem_cons, List.not_mem_nil, or_false] at hu; rcases hu with rfl | rfl | rfl | rfl <;> rfl) (by unfold maxLen; omega) (by omega) (by omega) ?_)
        intro x6 w6 o6 g6
        have hhw6 : Kx (fun k => W.heap.size ≤ k ∧ k ≠ w.heap.size ∧ k ≠ S) w5 w6 := ((kx_grown g6).mono HGK.out)
        refine hQS _ _ ⟨_, rfl, hhw6, ?_⟩
        clear hQS QS
        have cw6_0_0 : w6.cell? ⟨w.heap.size, 0, none⟩ = some (.int .i64 kd) := cell_kx hhw6 (by show ¬ (W.heap.size ≤ w.heap.size ∧ w.heap.size ≠ w.heap.size ∧ w.heap.size ≠ S); omega) (by go_simp)
        have cw6_0_1 : w6.cell? ⟨w.heap.size, 1, none⟩ = some (.int .i64 id) := cell_kx hhw6 (by show ¬ (W.heap.size ≤ w.heap.size ∧ w.heap.size ≠ w.heap.size ∧ w.heap.size ≠ S); omega) (by go_simp)
        have cw6_0_2 : w6.cell? ⟨w.heap.size, 2, none⟩ = some (.int .i64 kk) := cell_kx hhw6 (by show ¬ (W.heap.size ≤ w.heap.size ∧ w.heap.size ≠ w.heap.size ∧ w.heap.size ≠ S); omega) (by go_simp)
        have cw6_0_3 : w6.cell? ⟨w.heap.size, 3, none⟩ = some (.slice ad n cap) := cell_kx hhw6 (by show ¬ (W.heap.size ≤ w.heap.size ∧ w.heap.size ≠ w.heap.size ∧ w.heap.size ≠ S); omega) (by go_simp)
        have zw6_0 : w.heap.size < w6.heap.size := World.block_lt_of_cell? _ _ cw6_0_0
        have cw6_1_0 : w6.cell? ⟨S, 2, none⟩ = some (.slice ad0 L.length cp0) := cell_kx hhw6 (by show ¬ (W.heap.size ≤ S ∧ S ≠ w.heap.size ∧ S ≠ S); omega) (by go_simp)
        have zw6_1 : S < w6.heap.size := World.block_lt_of_cell? _ _ cw6_1_0
        have gw6 : Gr W w6 := Kx.gr hhw6 gw5 (fun k hk => by have hk2 : W.heap.size ≤ k ∧ k ≠ w.heap.size ∧ k ≠ S := hk; omega)
        have sw6 := hhw6.size
        clear gw5 zw5_0 cw5_0_0 cw5_0_1 cw5_0_2 cw5_0_3 zw5_1 cw5_1_0
        clear hhw6
        try simp only [Act.put, List.setIfInBounds_toArray, List.set_cons_zero, List.set_cons_succ]
        repeat (first | (refine Oe.wpO_skip (by simp only [List.getElem?_toArray, List.getElem?_cons_succ, List.getElem?_cons_zero] <;> rfl) rfl ?_; simp only [Act.put, List.setIfInBounds_toArray, List.set_cons_zero, List.set_cons_succ]) | (refine Oe.wpO_pure (by simp only [List.getElem?_toArray, List.getElem?_cons_succ, List.getElem?_cons_zero] <;> rfl) rfl ?_; apply Exists.intro; refine ⟨?_, ?_⟩; (· intro wx gx; have cx_0_0 : wx.cell? ⟨w.heap.size, 0, none⟩ = some (.int .i64 kd) := cell_kx gx (by show ¬ (W.heap.size ≤ w.heap.size ∧ w.heap.size ≠ w.heap.size ∧ w.heap.size ≠ S); omega) cw6_0_0; have cx_0_1 : wx.cell? ⟨w.heap.size, 1, none⟩ = some (.int .i64 id) := cell_kx gx (by show ¬ (W.heap.size ≤ w.heap.size ∧ w.heap.size ≠ w.heap.size ∧ w.heap.size ≠ S); omega) cw6_0_1; have cx_0_2 : wx.cell? ⟨w.heap.size, 2, none⟩ = some (.int .i64 kk) := cell_kx gx (by show ¬ (W.heap.size ≤ w.heap.size ∧ w.heap.size ≠ w.heap.size ∧ w.heap.size ≠ S); omega) cw6_0_2; have cx_0_3 : wx.cell? ⟨w.heap.size, 3, none⟩ = some (.slice ad n cap) := cell_kx gx (by show ¬ (W.heap.size ≤ w.heap.size ∧ w.heap.size ≠ w.heap.size ∧ w.heap.size ≠ S); omega) cw6_0_3; have zx_0 : w.heap.size < wx.heap.size := World.block_lt_of_cell? _ _ cx_0_0; have cx_1_0 : wx.cell? ⟨S, 2, none⟩ = some (.slice ad0 L.length cp0) := cell_kx gx (by show ¬ (W.heap.size ≤ S ∧ S ≠ w.heap.size ∧ S ≠ S); omega) cw6_1_0; have zx_1 : S < wx.heap.size := World.block_lt_of_cell? _ _ cx_1_0; clear gx; all_goals (apply Oe.pAt_of_quiet; intro K hK; go_big_quiet_op; first | exact hK _ rfl | (apply Exists.intro; refine ⟨fun _ => ?_, ?_⟩; (· fail); exact hK _ rfl))); try simp only [Act.put, List.setIfInBounds_toArray, List.set_cons_zero, List.set_cons_succ]))
        obtain ⟨ad6, c6, rfl, -, -⟩ := own_any o6
        have K36 : Kx (fun k => (Value.slice ad0 L.length cp0).ownBlock = some k) w3 w6 := (Kx.of_gr (Gr.trans hw4 HW5.out.1)).trans (kx_grown g6)
        have hh6 := heap_kx K36 (fun e => (HGK.out _ e).2.2 rfl) HH3.out
        have f6 : w6.frozen? ⟨S, 2, none⟩ = false := Hm.frozen_of_heap hh6 2
        have hr6 := ChRow.more HR3.out (Gr.trans hw4 HW5.out.1) (x := ⟨kd, id, kk, .slice ad n cap, n, X, Y⟩) o6 g6 (ptsF_gr HP3.out (Gr.trans hw4 HW5.out.1)) HZ.out HN.out
        have HO6 := Lib.hid (And.intro K36 (And.intro hh6 hr6))
        clear K36 hh6 hr6 o6 g6
        refine Oe.wpO_nil (hKQ _ _ ?_)
        clear hKQ KQ
        go_wp2_with fail
        go_ret
        obtain ⟨K36, hh6, hr6⟩ := HO6.out
        have KS : Kx (fun i => i = S) w6 (w6.setCell ⟨S, 2, none⟩ (.slice ad6 (L.length + 1) c6)) := (Kx.refl (S := fun i => i = S) w6).setCell (p := ⟨S, 2, none⟩) rfl _
        have FF := HF3.out.put (cv' := .slice ad6 (L.length + 1) c6) (op' := true) (L' := L ++ [⟨kd, id, kk, .slice ad n cap, n, X, Y⟩]) ((K36.mono (fun i hi => Or.inl hi)).trans (KS.mono (fun i hi => Or.inr hi))) (fun i hi => by
          rcases hi with hi | hi
          · obtain ⟨h1, cur, h2⟩ := own_tyC HR3.out.own hi
            exact Or.inr ⟨h1, Or.inr ⟨_, _, h2⟩⟩
          · exact Or.inl hi) (Hm.heap_set_same hh6) (hr6.ty KS (fun i hi => by subst hi; exact ⟨noTy_of hh6 (by decide), noTy_of hh6 (by decide)⟩))
        rw [List.map_append, HR.out.2.1] at FF
        refine ⟨_, M3, rfl, Or.inl ⟨rfl, HC2.out⟩, ?_⟩
        rw [show doS true G (σ j) ⟨kd, id, ⟨kk, n, X, Y⟩⟩ = apS (σ j) kd id kk n X Y from if_pos HC2.out, show doG true G (σ j) ⟨kd, id, ⟨kk, n, X, Y⟩⟩ = G ++ [⟨kd, id, ⟨kk, n, X, Y⟩⟩] from if_pos HC2.out]
        exact FF
      · have HE0 : Hid (EAt w3 (apN (σ j) kd id kk n X Y) (d + 1) (.iface 108 (.pointer (some ⟨B', 0, none⟩)))) := Lib.hid ⟨B', x, rfl, h6, h7⟩
        have HE1 := Lib.hid (And.intro k1 k15)
        clear h4 h5 h6 h7 k1 k15
        have AN := Lib.hid (fun w' (g : Gr w3 w') => md_fNewW stageS id HE1.out w' (eAt_gr HE0.out g))
        go_wp2_with fail
        go_at_call 57
        refine (AN.out _ (by go_grown)).mono ?_
        rintro e w4 ⟨F', rfl, hf, g4⟩
        have HE := Lib.hid (And.intro hf g4)
        clear hf g4
        go_wp2_with fail
        go_ret
        have hne : doC true G (σ j) ⟨kd, id, ⟨kk, n, X, Y⟩⟩ ≠ 0 := by rw [HC.out]; have := HE1.out.1; omega
        have eS : apS (σ j) kd id kk n X Y = σ j := if_pos (by have := HE1.out.1; omega)
        refine ⟨_, M3, rfl, by rw [HC.out]; exact HE.out.1, ?_⟩
        rw [show doS true G (σ j) ⟨kd, id, ⟨kk, n, X, Y⟩⟩ = σ j from if_neg hne, show doG true G (σ j) ⟨kd, id, ⟨kk, n, X, Y⟩⟩ = G from if_neg hne]
        have := HF3.out.to HE.out.2
        rw [eS] at this
        exact this
end
end Go.Proofs.YtpomllpplpalkaaGreatDoor
