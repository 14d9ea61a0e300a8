/- model: Apply over all cases; Copy of any map -/
import Derived.Test.YtpomllpplpalkaaGreatDoorWj
import Derived.Test.YtpomllpplpalkaaGreatDoorWf
namespace Go.Proofs.YtpomllpplpalkaaGreatDoor
set_option linter.unusedVariables false
set_option linter.unusedSimpArgs false
open Go.ChangeShapes Go.WideShapes Go.ChangeAt Go.RowKit Go.Maps

def apN (σ : Int → Option MO) (kd id k : Int) (n : Nat) (X Y : Nat → Int) : Nat := if chgC kd id k n X Y ≠ 0 then chgC kd id k n X Y else if kd = 1 then (if (σ id).isSome then 6 else 0) else if (σ id).isSome then 0 else 7
def apS (σ : Int → Option MO) (kd id k : Int) (n : Nat) (X Y : Nat → Int) : Int → Option MO := if apN σ kd id k n X Y ≠ 0 then σ else if kd = 1 then updS σ id (some ⟨k, n, X, Y⟩) else updS σ id none
def MdTo (W : World) (Q : Nat) (M : Option Nat) (N : Nat) (id : Int) (c : Nat) (σ : Int → Option MO) (e : Ending) (w' : World) : Prop := ∃ op v M', e = .returned v ∧ WErr op w' v id c ∧ (op = modelS ∨ op = changeS) ∧ MdAt w' Q M' σ (N + 1) ∧ (∀ m, M' = some m → M = some m ∨ W.heap.size ≤ m) ∧ Kx (fun j => j = Q ∨ M = some j) W w'
theorem mdAt_le {w : World} {Q N N' : Nat} {M : Option Nat} {σ : Int → Option MO} (h : MdAt w Q M σ N) (hn : N ≤ N') : MdAt w Q M σ N' := ⟨h.1, h.2.1, fun m hm => by
  obtain ⟨D, h1, h2⟩ := h.2.2 m hm
  exact ⟨D, ownsMap_le h1 hn, h2⟩⟩
theorem kx_gr {S : Nat → Prop} {a b : World} (g : Gr a b) : Kx S a b := (Kx.of_gr (S := fun _ => False) g).mono (fun _ h => h.elim)
theorem faultAt_werr {op : ByteArray} {w : World} {B : Nat} {id : Int} {k : Nat} (hk : 1 ≤ k ∧ k ≤ 15) (h : FaultAt w B op id k) : WErr op w (.iface 108 (.pointer (some ⟨B, 0, none⟩))) id k := Or.inr ⟨B, _, 0, rfl, hk.1, hk.2, h.1, h.2.1, h.2.2, rfl⟩
theorem md_Apply {Q N : Nat} {M : Option Nat} {σ : Int → Option MO} {kd id k : Int} {n : Nat} {X Y : Nat → Int} {v : Value} (hi : i64R id) (hN : N < 1000000) (W : World) (hM : MdAt W Q M σ N) (h : Pts W v n X Y) :
    Calls Tryz.prog 27 #[.pointer (some ⟨Q, 0, none⟩), .agg #[.int .i64 kd, .int .i64 id, .int .i64 k, v]] W fun e w' => MdTo W Q M N id (apN σ kd id k n X Y) (apS σ kd id k n X Y) e w' := by
  have keep : ∀ {w' : World}, Gr W w' → MdAt w' Q M σ (N + 1) ∧ (∀ m, M = some m → M = some m ∨ W.heap.size ≤ m) ∧ Kx (fun j => j = Q ∨ M = some j) W w' := fun g => ⟨mdAt_le (mdAt_gr hM g) (Nat.le_succ _), fun m hm => Or.inl hm, kx_gr g⟩
  by_cases hc : chgC kd id k n X Y = 0
  · rcases (chgC_ok hc).2.2 with ⟨rfl, ho⟩ | ⟨rfl, rfl, rfl⟩
    · have on := objC_near ho
      cases hs : (σ id).isSome with
      | true =>
        have eN : apN σ 1 id k n X Y = 6 := by unfold apN; rw [if_neg (fun h => h hc), if_pos rfl, if_pos hs]
        have eS : apS σ 1 id k n X Y = σ := by unfold apS; rw [eN]; exact if_pos (by decide)
        rw [eN, eS]
        refine (md_ap_dup hi W hM h hc hs).mono ?_
        rintro e w' ⟨F, rfl, hf, g⟩
        exact ⟨_, _, M, rfl, faultAt_werr (by decide) hf, Or.inl rfl, keep g⟩
      | false =>
        have eN : apN σ 1 id k n X Y = 0 := by unfold apN; rw [if_neg (fun h => h hc), if_pos rfl, if_neg (by rw [hs]; decide)]
        have eS : apS σ 1 id k n X Y = updS σ id (some ⟨k, n, X, Y⟩) := by unfold apS; rw [eN, if_neg (by decide), if_pos rfl]
        rw [eN, eS]
        cases M with
        | none =>
          refine (md_ap_new hi on.2.2.2.1 (by omega) hN W hM h hc hs).mono ?_
          rintro e w' ⟨m, rfl, hm, hl, K⟩
          exact ⟨modelS, _, some m, rfl, Or.inl ⟨rfl, rfl⟩, Or.inl rfl, hm, fun m' h' => Or.inr (by cases h'; exact hl), K.mono (fun j h => Or.inl h)⟩
        | some m =>
          refine (md_ap_put hi on.2.2.2.1 (by omega) hN W hM h hc hs).mono ?_
          rintro e w' ⟨rfl, hm, K⟩
          exact ⟨modelS, _, some m, rfl, Or.inl ⟨rfl, rfl⟩, Or.inl rfl, hm, fun m' h' => Or.inl h', K.mono (fun j h => Or.inr (congrArg some h.symm))⟩
    · cases hs : (σ id).isSome with
      | false =>
        have eN : apN σ 2 id 0 0 X Y = 7 := by unfold apN; rw [if_neg (fun h => h hc), if_neg (by decide), if_neg (by rw [hs]; decide)]
        have eS : apS σ 2 id 0 0 X Y = σ := by unfold apS; rw [eN]; exact if_pos (by decide)
        rw [eN, eS]
        refine (md_ap_abs hi W hM h hc hs).mono ?_
        rintro e w' ⟨F, rfl, hf, g⟩
        exact ⟨_, _, M, rfl, faultAt_werr (by decide) hf, Or.inl rfl, keep g⟩
      | true =>
        have eN : apN σ 2 id 0 0 X Y = 0 := by unfold apN; rw [if_neg (fun h => h hc), if_neg (by decide), if_pos hs]
        have eS : apS σ 2 id 0 0 X Y = updS σ id none := by unfold apS; rw [eN, if_neg (by decide), if_neg (by decide)]
        rw [eN, eS]
        cases M with
        | none => rw [hM.2.1 rfl id] at hs; cases hs
        | some m =>
          refine (md_ap_del hi W hM h hc hs).mono ?_
          rintro e w' ⟨rfl, hm, K⟩
          exact ⟨modelS, _, some m, rfl, Or.inl ⟨rfl, rfl⟩, Or.inl rfl, mdAt_le hm (Nat.le_succ _), fun m' h' => Or.inl h', K.mono (fun j h => Or.inr (congrArg some h.symm))⟩
  · have eN : apN σ kd id k n X Y = chgC kd id k n X Y := if_pos hc
    have eS : apS σ kd id k n X Y = σ := by unfold apS; rw [eN]; exact if_pos hc
    rw [eN, eS]
    refine (md_ap_bad hi W hM h hc).mono ?_
    rintro e w' ⟨F, rfl, hf, g⟩
    exact ⟨_, _, M, rfl, hf, Or.inr rfl, keep g⟩
set_option maxRecDepth 100000 in
theorem c_oClone0 (W : World) : Calls Tryz.prog 69 #[.map none] W fun e w' => e = .returned (.map none) ∧ Gr W w' := by
  have hE := md_eqm
  go_enter Tryz.func69, Tryz.ntmps69
  go_wp2_with fail
  go_ret
  exact ⟨rfl, by go_grown⟩
def CopyTo (W : World) (N : Nat) (σ : Int → Option MO) (e : Ending) (w' : World) : Prop := ∃ C M', e = .returned (.pointer (some ⟨C, 0, none⟩)) ∧ W.heap.size ≤ C ∧ (∀ m, M' = some m → W.heap.size ≤ m) ∧ MdAt w' C M' σ N ∧ Gr W w'
theorem mdAt_new {w : World} {N : Nat} {M : Option Nat} {σ : Int → Option MO} (h1 : M = none → ∀ z, σ z = none) (h2 : ∀ m, M = some m → ∃ D, w.ownsMap Tryz.prog 3 heldE m N D ∧ MAt w D σ) : MdAt (w.alloc (.cells #[.map M] 105)) w.heap.size M σ N :=
  ⟨(by show (w.heap.push _)[w.heap.size]? = _; exact Array.getElem?_push_size), h1, fun m hm => by
    obtain ⟨D, o, a⟩ := h2 m hm
    exact ⟨D, o.alloc _, mAt_kx (S := fun _ => False) a (Kx.of_gr ((Below.refl _ _).alloc (Nat.le_refl _) _)) (fun _ _ _ h => h)⟩⟩
set_option maxRecDepth 100000 in
theorem md_Copy {Q N : Nat} {M : Option Nat} {σ : Int → Option MO} (W : World) (hM : MdAt W Q M σ N) : Calls Tryz.prog 25 #[.pointer (some ⟨Q, 0, none⟩)] W fun e w' => CopyTo W N σ e w' := by
  have c0 : W.cell? ⟨Q, 0, none⟩ = some (.map M) := Hm.cell_of_heap hM.1 0
  have z := World.block_lt_of_cell? _ _ c0
  have HM := Lib.hid hM
  cases M with
  | none =>
    clear hM
    go_enter Tryz.func25, Tryz.ntmps25
    go_wp2_with fail
    go_at_call 69
    refine (c_oClone0 _).mono ?_
    rintro e w1 ⟨rfl, g1⟩
    have G1 : Gr W w1 := Gr.trans (by go_grown) g1
    have HG := Lib.hid G1
    clear g1 G1
    go_wp2_with fail
    go_ret
    exact ⟨_, none, rfl, HG.out.size, fun m h => (by cases h), mdAt_new HM.out.2.1 (fun m h => (by cases h)), HG.out.alloc HG.out.size _⟩
  | some m =>
    obtain ⟨D, hD, hA⟩ := hM.2.2 m rfl
    have AC := Lib.hid (fun w (g : Gr W w) => c_oClone w (ownsMap_kx hD (Kx.of_gr (S := fun _ => False) g) (fun h => h)))
    have HA := Lib.hid hA
    clear hM hD hA
    go_enter Tryz.func25, Tryz.ntmps25
    go_wp2_with fail
    go_at_call 69
    refine (AC.out _ (by go_grown)).mono ?_
    rintro e w1 ⟨rfl, m1, g1⟩
    have G1 : Gr W w1 := Gr.trans (by go_grown) g1
    have HG := Lib.hid (And.intro G1 m1)
    clear g1 G1 m1
    go_wp2_with fail
    go_ret
    exact ⟨_, some _, rfl, HG.out.1.size, fun m' h => (by cases h; go_simp), mdAt_new (fun h => (by cases h)) (fun m' h => (by
      cases h
      exact ⟨D, HG.out.2, mAt_kx (S := fun _ => False) HA.out (Kx.of_gr HG.out.1) (fun _ _ _ h => h)⟩)), HG.out.1.alloc HG.out.1.size _⟩
end Go.Proofs.YtpomllpplpalkaaGreatDoor
