/- SlotsPlays: the two pages side by side -/
import Derived.Test.YtilijbplfobneaaDoorMs
import Derived.Test.YtilijbplfobneaaDoorSk
namespace Go.Proofs.YtilijbplfobneaaDoor
set_option linter.unusedVariables false
set_option linter.unusedSimpArgs false
open Go.ChangeShapes Go.WideShapes Go.ChangeAt Go.RowKit Go.Maps

/-- What lay off these blocks lies off those that came behind, too. -/
theorem refP_monoK {base q : Nat} {a b : World} {Z Z' : Nat → Prop} {kd id : Int} {S : List Sl} {bv hv : Value} {xs : List Value} (h : RefP base b q Z kd id S bv hv xs) (h0 : RefP base a q Z kd id S bv hv xs) (hZ : ∀ k, Z' k → Z k ∨ a.heap.size ≤ k) : RefP base b q Z' kd id S bv hv xs := by
  have h1 := refP_mono h0 hZ
  refine ⟨h.head, h.le, h.has, h.row, fun j hj => ?_, h1.offQ, h1.offH, h1.offB⟩
  obtain ⟨v, e, r⟩ := h.sl j hj
  obtain ⟨v', e', r'⟩ := h1.sl j hj
  rw [e] at e'
  obtain rfl := Option.some.inj e'
  refine ⟨v, e, ?_⟩
  cases hs : S[j] with
  | none => rw [hs] at r; exact r
  | some L =>
    rw [hs] at r r'
    exact ⟨⟨r.1.1, r'.1.2.1, r.1.2.2⟩, r.2⟩
/-- Both pages, beside the step's own block. -/
def Mid (W w : World) (B q V kd id : Nat) (C : Option Nat) (S S2 : List Sl) : Prop :=
  PageS w B C kd id S ∧ (∃ bv hv xs, RefP W.heap.size w q (fun k => pgZ B C k ∨ k = V) kd id S2 bv hv xs) ∧ (∀ k, pgZ B C k → W.heap.size ≤ k) ∧ ¬ pgZ B C V ∧ V < w.heap.size ∧ W.heap.size ≤ V
section
variable {W w w' : World} {B q V kd id : Nat} {C : Option Nat} {S S2 : List Sl}
theorem mid_gr (h : Mid W w B q V kd id C S S2) (g : Gr w w') : Mid W w' B q V kd id C S S2 := by
  obtain ⟨h1, ⟨bv, hv, xs, h2⟩, h3, h4, h5, h6⟩ := h
  exact ⟨pageS_gr h1 g, ⟨bv, hv, xs, refP_gr h2 g⟩, h3, h4, Nat.lt_of_lt_of_le h5 g.size, h6⟩
theorem mid_p {S' : List Sl} (h : Mid W w B q V kd id C S S2) (G : Gr W w) (hp : PTo w B C kd id S' w') : ∃ C', Mid W w' B q V kd id C' S' S2 ∧ Kx (fun k => k ≠ V ∧ W.heap.size ≤ k) w w' := by
  obtain ⟨h1, ⟨bv, hv, xs, h2⟩, h3, h4, h5, h6⟩ := h
  obtain ⟨C', p1, p2, p3⟩ := hp
  have hz : ∀ j, pgZ B C' j → pgZ B C j ∨ w.heap.size ≤ j := fun j hj => by
    rcases hj with e | e
    · exact Or.inl (Or.inl e)
    · rcases p2 with rfl | ⟨D, rfl, hD⟩
      · exact Or.inl (Or.inr e)
      · obtain rfl := Option.some.inj e
        exact Or.inr hD
  have hr := refP_kx h2 p3 (fun k hk => by rcases hk with h | h; exact Or.inl (Or.inl h); exact Or.inr h)
  have hsz := p3.size
  refine ⟨C', ⟨p1, ⟨bv, hv, xs, refP_monoK hr h2 (fun k hk => ?_)⟩, fun k hk => ?_, fun hk => ?_, by omega, h6⟩, p3.mono (fun k hk => ?_)⟩
  · rcases hk with h | h
    · rcases hz k h with h | h
      · exact Or.inl (Or.inl h)
      · exact Or.inr h
    · exact Or.inl (Or.inr h)
  · rcases hz k hk with h | h
    · exact h3 k h
    · exact Nat.le_trans G.size h
  · rcases hz V hk with h | h
    · exact h4 h
    · omega
  · rcases hk with h | h
    · exact ⟨fun e => h4 (e ▸ h), h3 k h⟩
    · exact ⟨fun e => by omega, Nat.le_trans G.size h⟩
theorem mid_r {S3 : List Sl} (h : Mid W w B q V kd id C S S2) (hr : RefTo W.heap.size w q (fun k => pgZ B C k ∨ k = V) kd id S3 w') : Mid W w' B q V kd id C S S3 ∧ Kx (fun k => k ≠ V ∧ W.heap.size ≤ k) w w' := by
  obtain ⟨h1, -, h3, h4, h5, h6⟩ := h
  obtain ⟨hR, T, t1, t2, t3⟩ := hr
  exact ⟨⟨pageS_oth h1 t1 t2 (fun k hk hz => (t3 k hk).1 (Or.inl hz)), hR, h3, h4, Nat.lt_of_lt_of_le h5 t1.size, h6⟩, t1.mono (fun k hk => ⟨fun e => (t3 k hk).1 (Or.inr e), (t3 k hk).2⟩)⟩
/-- The two pages between two steps. -/
def PlayX (W w : World) (B q kd id : Nat) : Prop := ∃ C S, PageS w B C kd id S ∧ (∃ bv hv xs, RefP W.heap.size w q (pgZ B C) kd id S bv hv xs) ∧ usS S ≤ 512 ∧ Trim S ∧ ∀ k, pgZ B C k → W.heap.size ≤ k
theorem play_mid (h : PlayX W w B q kd id) (G : Gr W w) (o : Obj) : ∃ C S, Mid W (w.alloc o) B q w.heap.size kd id C S S ∧ usS S ≤ 512 ∧ Trim S := by
  obtain ⟨C, S, h1, ⟨bv, hv, xs, h2⟩, h3, h4, h5⟩ := h
  have g : Gr w (w.alloc o) := (Below.refl _ _).alloc (Nat.le_refl _) _
  exact ⟨C, S, ⟨pageS_gr h1 g, ⟨bv, hv, xs, refP_gr (refP_mono h2 (fun k hk => by rcases hk with h | h; exact Or.inl h; exact Or.inr (by rw [h]; exact Nat.le_refl _))) g⟩, h5, fun hk => by have := pageS_zlt h1 _ hk; omega, by simp, G.size⟩, h3, h4⟩
theorem play_gr (h : PlayX W w B q kd id) (G : Gr w w') : PlayX W w' B q kd id := by
  obtain ⟨C, S, h1, ⟨bv, hv, xs, h2⟩, h3⟩ := h
  exact ⟨C, S, pageS_gr h1 G, ⟨bv, hv, xs, refP_gr h2 G⟩, h3⟩
theorem mid_play (h : Mid W w B q V kd id C S S) (hu : usS S ≤ 512) (ht : Trim S) : PlayX W w B q kd id := by
  obtain ⟨h1, ⟨bv, hv, xs, h2⟩, h3, -, -, -⟩ := h
  exact ⟨C, S, h1, ⟨bv, hv, xs, refP_mono h2 (fun k hk => Or.inl (Or.inl hk))⟩, hu, ht, h3⟩
theorem uErr_r {u : Value} {n : Int} {c : Nat} (h : UErr w u n c) (g : c ≠ 0 → Gr w w') : UErr w' u n c := by
  rcases h with ⟨rfl, rfl⟩ | ⟨F, rfl, hF, h1, h2⟩
  · exact Or.inl ⟨rfl, rfl⟩
  · have g' := g (by omega)
    exact Or.inr ⟨F, rfl, ⟨cell_gr g' hF.1, cell_gr g' hF.2.1, cell_gr g' hF.2.2⟩, h1, h2⟩
theorem uErr_gr {u : Value} {n : Int} {c : Nat} (h : UErr w u n c) (g : Gr w w') : UErr w' u n c := uErr_r h (fun _ => g)
theorem rowOff_p {S' : List Sl} {v : Value} {L : List UInt8} (h : RowOff w (pgZ B C) v L) (hp : PTo w B C kd id S' w') : RowOff w' (fun _ => False) v L := by
  obtain ⟨C', p1, p2, p3⟩ := hp
  exact rowOff_mono (rowOff_kx h p3 (fun k hk => hk)) (fun k hk => hk.elim)
theorem mid_zlt (h : Mid W w B q V kd id C S S2) : ∀ k, pgZ B C k ∨ k = V → k < w.heap.size := fun k hk => by
  rcases hk with hk | rfl
  · exact pageS_zlt h.1 k hk
  · exact h.2.2.2.2.1
end
/-- The program's call. -/
def PDone (W w' : World) (B q V kd id : Nat) (S S' : List Sl) (n : Int) (u : Value) (c : Nat) : Prop := UErr w' u n c ∧ ∃ C, Mid W w' B q V kd id C S' S
/-- .. and the document's. -/
def RDone (W w' : World) (B q V kd id : Nat) (S' : List Sl) (n : Int) (u : Value) (c : Nat) : Prop := UErr w' u n c ∧ ∃ C, Mid W w' B q V kd id C S' S'
section
variable {W w : World} {B q V kd id : Nat} {C : Option Nat} {S S' : List Sl} {L : List UInt8} {u : Value} {c : Nat}
theorem x_ins (m cap : Nat) (ad : Option Addr) (hm : m = L.length) (h : Mid W w B q V kd id C S S) (G : Gr W w) (hR : RowOff w (pgZ B C) (.slice ad m cap) L) :
    Calls Tryd.prog 12 #[.pointer (some ⟨B, 0, none⟩), .slice ad m cap] w fun e w' => ∃ (k : Nat) (u : Value) (c : Nat) (S' : List Sl), e = .returned (.tuple #[.int .i64 (k : Nat), u]) ∧ (c = 0 → k = lfS S) ∧ (c ≠ 0 → k = 0) ∧ InsR S L S' c ∧ PDone W w' B q V kd id S S' (lfS S : Nat) u c ∧ RowOff w' (fun _ => False) (.slice ad m cap) L ∧ Kx (fun k => k ≠ V ∧ W.heap.size ≤ k) w w' := by
  refine (p_insAny m cap ad hm w h.1 hR).mono ?_
  rintro e w' ⟨k, u, c, S', rfl, k1, k2, hI, hU, hP⟩
  obtain ⟨C', hM, hK⟩ := mid_p h G hP
  exact ⟨k, u, c, S', rfl, k1, k2, hI, ⟨hU, C', hM⟩, rowOff_p hR hP, hK⟩
theorem x_set (n : Int) (m cap : Nat) (ad : Option Addr) (hm : m = L.length) (h : Mid W w B q V kd id C S S) (G : Gr W w) (hR : RowOff w (pgZ B C) (.slice ad m cap) L) :
    Calls Tryd.prog 14 #[.pointer (some ⟨B, 0, none⟩), .int .i64 n, .slice ad m cap] w fun e w' => ∃ (u : Value) (c : Nat) (S' : List Sl), e = .returned u ∧ SetR S L n S' c ∧ PDone W w' B q V kd id S S' n u c ∧ RowOff w' (fun _ => False) (.slice ad m cap) L ∧ Kx (fun k => k ≠ V ∧ W.heap.size ≤ k) w w' := by
  refine (p_setAny n m cap ad hm w h.1 hR).mono ?_
  rintro e w' ⟨u, c, S', rfl, hI, hU, hP⟩
  obtain ⟨C', hM, hK⟩ := mid_p h G hP
  exact ⟨u, c, S', rfl, hI, ⟨hU, C', hM⟩, rowOff_p hR hP, hK⟩
theorem x_del (n : Int) (h : Mid W w B q V kd id C S S) (G : Gr W w) :
    Calls Tryd.prog 16 #[.pointer (some ⟨B, 0, none⟩), .int .i64 n] w fun e w' => ∃ (u : Value) (c : Nat) (S' : List Sl), e = .returned u ∧ DelR S n S' c ∧ PDone W w' B q V kd id S S' n u c ∧ Kx (fun k => k ≠ V ∧ W.heap.size ≤ k) w w' := by
  refine (p_delAny n w h.1).mono ?_
  rintro e w' ⟨u, c, S', rfl, hI, hU, hP⟩
  obtain ⟨C', hM, hK⟩ := mid_p h G hP
  exact ⟨u, c, S', rfl, hI, ⟨hU, C', hM⟩, hK⟩
theorem y_ins {n : Int} (m cap : Nat) (ad : Addr) (hm : m = L.length) (hs : InsR S L S' c) (h : PDone W w B q V kd id S S' n u c) (G : Gr W w) (hR : RowOff w (fun _ => False) (.slice (some ad) m cap) L) :
    Calls Tryd.prog 13 #[.pointer (some ⟨q, 0, none⟩), .slice (some ad) m cap] w fun e w' => e = .returned (.tuple #[.int .i64 (lfS S : Nat), .int .i64 (c : Nat)]) ∧ RDone W w' B q V kd id S' n u c ∧ Kx (fun k => k ≠ V ∧ W.heap.size ≤ k) w w' := by
  obtain ⟨hU, C', hM⟩ := h
  obtain ⟨bv, hv, xs, hr⟩ := hM.2.1
  refine (r_insAny m cap ad hm hs w hr (mid_zlt hM) G.size hR).mono ?_
  rintro e w' ⟨rfl, hT, hg⟩
  obtain ⟨hM', hK⟩ := mid_r hM hT
  exact ⟨rfl, ⟨uErr_r hU hg, C', hM'⟩, hK⟩
theorem y_set {n : Int} (m cap : Nat) (ad : Addr) (hm : m = L.length) (hs : SetR S L n S' c) (h : PDone W w B q V kd id S S' n u c) (G : Gr W w) (hR : RowOff w (fun _ => False) (.slice (some ad) m cap) L) :
    Calls Tryd.prog 15 #[.pointer (some ⟨q, 0, none⟩), .int .i64 n, .slice (some ad) m cap] w fun e w' => e = .returned (.int .i64 (c : Nat)) ∧ RDone W w' B q V kd id S' n u c ∧ Kx (fun k => k ≠ V ∧ W.heap.size ≤ k) w w' := by
  obtain ⟨hU, C', hM⟩ := h
  obtain ⟨bv, hv, xs, hr⟩ := hM.2.1
  refine (r_setAny n m cap ad hm hs w hr (mid_zlt hM) G.size hR).mono ?_
  rintro e w' ⟨rfl, hT, hg⟩
  obtain ⟨hM', hK⟩ := mid_r hM hT
  exact ⟨rfl, ⟨uErr_r hU hg, C', hM'⟩, hK⟩
theorem y_del {n : Int} (hs : DelR S n S' c) (h : PDone W w B q V kd id S S' n u c) (G : Gr W w) :
    Calls Tryd.prog 17 #[.pointer (some ⟨q, 0, none⟩), .int .i64 n] w fun e w' => e = .returned (.int .i64 (c : Nat)) ∧ RDone W w' B q V kd id S' n u c ∧ Kx (fun k => k ≠ V ∧ W.heap.size ≤ k) w w' := by
  obtain ⟨hU, C', hM⟩ := h
  obtain ⟨bv, hv, xs, hr⟩ := hM.2.1
  refine (r_delAny n hs w hr (mid_zlt hM) G.size).mono ?_
  rintro e w' ⟨rfl, hT, hg⟩
  obtain ⟨hM', hK⟩ := mid_r hM hT
  exact ⟨rfl, ⟨uErr_r hU hg, C', hM'⟩, hK⟩
/-- Laid, and read again. -/
theorem x_parse {P : List UInt8} {g : Nat} (hk : kd ≤ 255) (hid : id ≤ 4294967295) (hF : FT w) (h : Mid W w B q V kd id C S S) (G : Gr W w) (hu : usS S ≤ 512) (ht : Trim S) (hP : Full w g 512 (pgB kd id S)) :
    Calls Tryd.prog 21 #[.slice (some ⟨g, 0, none⟩) 512 512] w fun e w' => ∃ B' C', e = .returned (.tuple #[.pointer (some ⟨B', 0, none⟩), .nilIface]) ∧ Mid W w' B' q V kd id C' S S ∧ Gr w w' := by
  obtain ⟨bv, hv, xs, hr⟩ := h.2.1
  have h60 := hr.le
  obtain ⟨r1, r2, r3, r4⟩ := rt hk (show id < 4294967296 by omega) hu h60 (refP_sz hr) ht
  refine (c_Parse w hF (full_row hP) (by rw [hP.1]; decide)).mono ?_
  rintro e w' ⟨hp, g'⟩
  rcases hp with ⟨-, -, B', C', rfl, hz, hpg⟩ | ⟨hno, -⟩
  · rw [r2, r3, r4] at hpg
    exact ⟨B', C', rfl, ⟨hpg, ⟨bv, hv, xs, refP_gr (refP_mono hr (fun k hk => by rcases hk with h | h; exact Or.inr (hz k h); exact Or.inl (Or.inr h))) g'⟩, fun k hk => Nat.le_trans G.size (hz k hk), fun hk => by have := hz V hk; have := h.2.2.2.2.1; omega, Nat.lt_of_lt_of_le h.2.2.2.2.1 g'.size, h.2.2.2.2.2⟩, g'⟩
  · exact absurd ⟨r1, by rw [r2, r3, r4]⟩ hno
end
end Go.Proofs.YtilijbplfobneaaDoor
