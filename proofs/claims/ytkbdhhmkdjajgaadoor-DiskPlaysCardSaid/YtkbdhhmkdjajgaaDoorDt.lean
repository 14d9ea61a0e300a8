/- disk: Sync -/
import Derived.Test.YtkbdhhmkdjajgaaDoorDi
import Derived.Maps.RangeWalk
namespace Go.Proofs.YtkbdhhmkdjajgaaDoor
set_option linter.unusedVariables false
set_option linter.unusedSimpArgs false
open Go.ChangeShapes Go.WideShapes Go.ChangeAt Go.RowKit Go.Maps

theorem keys_in {H : Type} : ∀ (l : List Nat), l.Nodup → ∀ D : DataW H, Tidy D → Maps.size D = l.length → (∀ k ∈ l, Maps.has D (ik k) = true) → ∀ kl, Maps.has D kl = true → ∃ k ∈ l, kl = ik k
  | [], _, D, hT, hs, _, kl, hk => by
    obtain ⟨es, rfl, -⟩ := hT
    rw [size_eq] at hs
    obtain rfl := List.eq_nil_of_length_eq_zero hs
    rw [has_eq] at hk
    cases hk
  | a :: l, hn, D, hT, hs, hk, kl, hkl => by
    by_cases e : kl = ik a
    · exact ⟨a, List.mem_cons_self, e⟩
    · have ha := hk a List.mem_cons_self
      have h1 := size_del (k := ik a) hT
      rw [ha, if_pos rfl, hs, List.length_cons] at h1
      obtain ⟨n1, n2⟩ := List.nodup_cons.1 hn
      obtain ⟨k, hk1, hk2⟩ := keys_in l n2 (D.del (ik a)) (hT.del _) (by omega) (fun k hk' => by
        rw [has_del_other (ik_ne (j := k) (k := a) (fun e => n1 (by rw [← e]; exact hk')))]
        exact hk k (List.mem_cons_of_mem _ hk')) kl (by rw [has_del_other e]; exact hkl)
      exact ⟨k, List.mem_cons_of_mem _ hk1, hk2⟩
theorem grown_kx {a b : World} {row : Option Nat} {S : Nat → Prop} (h : a.grownBy b row) (hS : ∀ k, row = some k → S k) : Kx S a b :=
  ⟨h.os, h.tape, h.output, h.size, fun k hk hs => h.block k hk (fun e => hs (hS k e.symm))⟩
theorem ranges_kx {P : Program} {k : TypeId} {a b : World} {S : Nat → Prop} {bm r n cnt : Nat} {D : DataW Value} {left : Lit → Bool} (h : a.ranges P k heldE bm r n D left cnt) (K : Kx S a b) (h1 : ¬ S bm) (h2 : ¬ S r) : b.ranges P k heldE bm r n D left cnt := by
  obtain ⟨es, clock, since, seen, c0, hb, F, hs, hD, hr, rest⟩ := h
  exact ⟨es, clock, since, seen, c0, heap_kx K h1 hb, F, hs, hD, heap_kx K h2 hr, rest⟩
theorem run_clearM {P : Program} {w : World} {r : Nat} {es : Array MapEntry} {clock : Nat} {t ty k e : TypeId} (ht : P.underlying t = some (.map k e)) (hb : w.heap[r]? = some (.map es clock)) :
    (Builtin.clear_ #[t] ty #[.map (some r)]).run P w = .ok (.tuple #[]) { w with heap := w.heap.setIfInBounds r (.map #[] clock) } := by
  simp [Builtin.clear_, run_underlying ht, MapKept.run_getObj_map hb, MapKept.run_setObj_map _ hb, Result.andThen]
theorem wpList_clearM {P : Program} {w : World} {ops : Array Oper} {rest : List Oper} {o : Oper} {a : Act} {Q : Exit → Act → World → Prop} (hg : o.guard = none) (m : Operand) (t : TypeId)
    (hop : o.op = Op.call { callee := Callee.builtin Builtin.clear, args := #[m], argTypes := #[t] }) (k e : TypeId) (ht : P.underlying t = some (.map k e)) (b n : Nat) (D : DataW Value)
    (hm : a.eval m = .map (some b)) (hown : w.ownsMap P k heldE b n D) (hK : ∀ w', w'.ownsMap P k heldE b 0 (.map []) → Kx (fun j => j = b) w w' → wpList P ops Q rest (a.put o.dst (.tuple #[])) w') : wpList P ops Q (o :: rest) a w := by
  refine wpList_plain hg fun K' hK' => ?_
  obtain ⟨es, clock, hb, F, hs, hD⟩ := hown
  have hrun := run_clearM (ty := o.type) ht hb
  have hw := MapKept.heap_set (o' := Obj.map #[] clock) hb
  unfold Oper.wp
  simp [execOp, hop, resolve, invoke, builtin, hm, hrun, Result.andThen]
  exact hK' _ _ (hK _ ⟨#[], clock, hw.1, ⟨by simp, MapKept.stamped_empty _, by simp⟩, Nat.le_refl _, rfl⟩ ⟨rfl, rfl, rfl, by simp, fun j hj hs => hw.2 j hs⟩)
section
variable {p g bm : Nat} {M : Option Nat} {d : Dk}
def synF (d : Dk) (left : Lit → Bool) (k : Nat) : List UInt8 := if k ∈ d.ord ∧ left (ik k) = false then d.F k else sec d.good k
theorem ov_form' {w : World} {b e n : Nat} {ov : Value} {xs : List Value} (h : w.ownsRow b e 1 ov n xs) : ∃ sa scap, ov = .slice sa n scap := by
  rcases h.2 with ⟨e, h0⟩ | ⟨g', cap', cur, e, hb, hh, hn, hc, hs, ht⟩
  · exact ⟨none, 0, by rw [e, h0]⟩
  · exact ⟨_, cap', e⟩
theorem diskS_goodX {a b : World} {G : List UInt8} {cap : Nat} (H : DiskS a p g bm M d) (hc : a.cell? ⟨p, 0, none⟩ = some (.slice (some ⟨g, 0, none⟩) (d.n * 64) cap)) (K : Kx (fun j => j = g ∨ a.heap.size ≤ j) a b) (hO : Own b 0 (.slice (some ⟨g, 0, none⟩) (d.n * 64) cap) G) (hl : G.length = d.n * 64) : DiskS b p g bm M { d with good := G } := by
  have hz := diskS_zlt H
  obtain ⟨ok, ⟨cap', ov, h2, h3, h4, h5⟩, h6, n1, n2, n3, n4, n5, n6⟩ := H
  obtain rfl : cap' = cap := by have := h2.c0; rw [hc] at this; simpa using (Option.some.inj this).symm
  have z1 := hz p (Or.inl rfl)
  have z3 := hz bm (Or.inr (Or.inr (Or.inl rfl)))
  refine ⟨⟨ok.n1, ok.n2, hl, ok.nodup, ok.lt, ok.sz, ok.ops, ok.left, ok.lft⟩, ⟨cap', ov, diskAt_kx h2 K (fun h => by rcases h with h | h; exact n1 h; omega), hO, rowOwn_kxS h4 K (fun j hj h => by
    rcases h with h | h
    · rw [h5] at hj; exact n5 (by rw [hj, h])
    · have := (World.ownsRow.lt h4 j hj).2; omega), h5⟩, ?_, n1, n2, n3, n4, n5, n6⟩
  have := waits_turn (Z' := dkZ p g bm M) h6 K (fun h => by rcases h with h | h; exact n3 h.symm; omega) (fun j h => by
    rcases h with h | h
    · exact Or.inl (Or.inr (Or.inl h))
    · exact Or.inr h) (fun j hj => Or.inl hj)
  exact this
def SynIn (w0 w : World) (g cap : Nat) (d : Dk) (left : Lit → Bool) : Prop :=
  ∃ G, Own w 0 (.slice (some ⟨g, 0, none⟩) (d.n * 64) cap) G ∧ G.length = d.n * 64 ∧ (∀ k, k < d.n → sec G k = synF d left k) ∧ Kx (fun j => j = g ∨ w0.heap.size ≤ j) w0 w
theorem synF_start {D : DataW Value} (hW : ∀ k : Nat, k < 10000 → (k ∈ d.ord → Maps.has D (ik k) = true)) (ok : d.ok) {k : Nat} (hk : k < d.n) : synF d (Maps.has D) k = sec d.good k := by
  unfold synF
  rw [if_neg (fun h => ?_)]
  have := hW k (by have := ok.n2; omega) h.1
  rw [h.2] at this
  cases this
theorem synF_end {left : Lit → Bool} (hl : ∀ kl, left kl = false) (k : Nat) : synF d left k = d.read k := by
  unfold synF Dk.read
  by_cases h : k ∈ d.ord
  · rw [if_pos h, if_pos ⟨h, hl _⟩]
  · rw [if_neg h, if_neg (fun h' => h h'.1)]
theorem syn_step {G : List UInt8} {left : Lit → Bool} {k : Nat} (ok : d.ok) (hk : k ∈ d.ord) (hG : G.length = d.n * 64) (hs : ∀ k, k < d.n → sec G k = synF d left k) :
    (splice G (k * 64) (d.F k)).length = d.n * 64 ∧ ∀ j, j < d.n → sec (splice G (k * 64) (d.F k)) j = synF d (fun z => left z && !z.sameKey (ik k)) j := by
  have hl := ok.sz k hk
  have hkn := ok.lt k hk
  have hle : (k + 1) * 64 ≤ G.length := by rw [hG]; exact Nat.mul_le_mul_right 64 hkn
  refine ⟨?_, fun j hj => ?_⟩
  · unfold splice
    simp only [List.length_append, List.length_take, List.length_drop]
    omega
  · rw [sec_splice G k j _ (by omega) hle]
    by_cases e : j = k
    · subst e
      have h1 : (sec G j).length = 64 := by unfold sec; rw [List.length_take, List.length_drop]; omega
      rw [if_pos rfl, List.drop_eq_nil_of_le (by omega), List.append_nil]
      unfold synF
      rw [if_pos ⟨hk, by simp [Lit.sameKey]⟩]
    · rw [if_neg e, hs j hj]
      unfold synF
      have : (left (ik j) && !(ik j).sameKey (ik k)) = left (ik j) := by rw [sameKey_ne (ik_ne e)]; simp
      show _ = if j ∈ d.ord ∧ (left (ik j) && !(ik j).sameKey (ik k)) = false then d.F j else sec d.good j
      rw [this]
set_option maxHeartbeats 2000000 in
set_option maxRecDepth 100000 in
theorem d_sync (ho : d.on) (hn : d.ops < 1000000) (W : World) (H : DiskS W p g bm M d) :
    Calls Tryd.prog 13 #[.pointer (some ⟨p, 0, none⟩)] W fun e w' => e = .returned .nilIface ∧ (∃ G, (∀ k, k < d.n → sec G k = d.read k) ∧ DiskS w' p g bm M { d.opd with good := G, ord := [] }) ∧ Kx (fun j => dkZ p g bm M j ∨ W.heap.size ≤ j) W w' := by
  have hn1 := H.ok.n1
  have hn2 := H.ok.n2
  have A1 := fun w (G : Gr W w) => d_len w (diskS_gr H G)
  have A2 := fun w (G : Gr W w) => d_op_on ho hn w (diskS_gr H G)
  have t1 : ((d.n : Int) == 0) = false := by simp; omega
  have t2 : (d.n == 0) = false := by simp; omega
  have hRd : Hid (∀ k, d.opd.read k = d.read k) := Lib.hid (fun k => rfl)
  have H1 := Lib.hid A1
  have H2 := Lib.hid A2
  clear A1 A2
  clear H ho hn
  have en : d.opd.n = d.n := rfl
  generalize hrd : d.read = rd at hRd ⊢
  generalize d.opd = d1 at *
  rw [← en] at hn1 hn2 t1 t2 ⊢
  rw [← en] at H1
  clear en hrd
  go_enter Tryd.func13, Tryd.ntmps13
  go_wp2_with fail
  go_at_call 29
  refine ((H1.out _ (by go_grown))).mono ?_
  rintro e w1 ⟨rfl, hw1⟩
  have gw1 : Gr W w1 := Gr.trans (by go_grown) hw1
  clear hw1
  go_wp2_with fail
  go_at_call 30
  refine (H2.out _ gw1).mono ?_
  rintro e w2 ⟨rfl, hd, k2⟩
  have K2 : Kx (fun j => j = p) W w2 := (Kx.of_gr gw1).trans k2
  obtain ⟨cap, ov, h2, h3, h4, h5, -, -⟩ := diskS_head hd
  obtain ⟨D, hD, hsz, hW⟩ := hd.waits
  have c1 := h2.c1
  have hp2 := World.block_lt_of_cell? _ _ c1
  have hg2 : g < w2.heap.size := (World.ownsRow.lt h3 g rfl).2
  have hb2 := hD.lt
  have hne := hd.ne
  have hol := ord_len hd.ok
  have HX := Lib.hid (And.intro hd (And.intro h2 (And.intro h3 (And.intro h4 (And.intro h5 (And.intro hD (And.intro hsz (And.intro hW K2))))))))
  clear hd h2 h3 h4 h5 hsz hW k2 K2 gw1
  go_wp2_with (first | (at_range; (refine wpList_range_own _ rfl _ 70 rfl 3 37 KI Tryd.underlying70 heldE bm d1.ord.length D rfl hD ?_); intro w0 hrg0 hg0 hs0))
  go_frame
  obtain ⟨r, hr⟩ : ∃ r, r = w2.heap.size := ⟨_, rfl⟩
  rw [← hr] at hrg0 hs0 ⊢
  have HR := Lib.hid hr
  have K0 : Kx (fun j => j = g ∨ w2.heap.size ≤ j) w2 w0 := grown_kx hg0 (fun k h => by cases h)
  have HS0 : Hid (SynIn w2 w0 g cap d1 (Maps.has D)) := Lib.hid (by
    obtain ⟨hd, h2, h3, h4, h5, hD, hsz, hW, -⟩ := HX.out
    exact ⟨d1.good, rowOwn_kxS h3 (grown_kx (S := fun _ => False) hg0 (fun k h => by cases h)) (fun _ _ h => h), hd.ok.len, fun k hk => (synF_start (fun k hk hin => ((hW k hk).2 hin).1) hd.ok hk).symm, K0⟩)
  have HG0 := Lib.hid hrg0
  have hr0 : bm < r := by omega
  have hr1 : p < r := by omega
  have hr3 : g < r := by omega
  clear hg0 hrg0 hs0 K0 hr c1 hD
  go_loopw [4] (fun _ wr => ∃ left cnt, wr.ranges Tryd.prog 3 heldE bm r d1.ord.length D left cnt ∧ Hid (SynIn w2 wr g cap d1 left)) (fun _ wr => wr.rangeLeft bm r)
  case atStart => exact ⟨_, _, HG0.out, HS0⟩
  case round =>
    obtain ⟨left, cnt, hrg, HS⟩ := hrel
    go_wp2_with (at_next; (refine wpList_next_ranges _ rfl _ rfl 3 KI heldE (Value.int .i64) (fun v : Value => v) (fun key kl hkey => by obtain ⟨x, rfl, _⟩ := Maps.keyOf_int_inv Tryd.underlying3 hkey; exact ⟨x, rfl⟩) (fun v y hv => ⟨v, rfl⟩) bm r _ _ _ _ rfl hrg ?_ ?_))
    · intro hc0 hl0
      have hsy := HS.out
      obtain ⟨hd, h2, h3, h4, h5, hD, hsz, hW, K2⟩ := HX.out
      obtain ⟨G, o, l, q, K⟩ := hsy
      have q' : ∀ k, k < d1.n → sec G k = rd k := fun k hk => by rw [q k hk, synF_end hl0, hRd.out]
      have hdr := diskS_goodX hd h2.c0 K o l
      have Kr : Kx (fun j => j = p ∨ j = g ∨ W.heap.size ≤ j) W wr := (K2.mono (fun j h => Or.inl h)).trans (K.mono (fun j h => by
        rcases h with h | h
        · exact Or.inr (Or.inl h)
        · exact Or.inr (Or.inr (Nat.le_trans K2.size h))))
      obtain ⟨cap', ov', x2, x3, x4, x5, -, -⟩ := diskS_head hdr
      obtain ⟨D', hD', -⟩ := hdr.waits
      have HE := Lib.hid (And.intro hdr (And.intro q' (And.intro Kr (And.intro x2 (And.intro x3 (And.intro x4 x5))))))
      have y1 := x2.c1
      have zp := World.block_lt_of_cell? _ _ y1
      have y2 := x2.c2
      have w2f := x2.f2
      have hne := hdr.ne
      have hpb : p ≠ bm := hne.2.1
      obtain ⟨sa, scap, rfl⟩ := ov_form' x4
      rw [show ({ d1 with good := G } : Dk).ord.length = d1.ord.length from rfl] at y2
      have hscap : ((scap : Int) ≤ 9223372036854775807 ∧ 0 ≤ scap) ∧ ∀ a, sa = some a → ∃ C, a = ⟨C, 0, none⟩ := by
        rcases x4.2 with ⟨e, h0⟩ | ⟨C, ocap, cur, e, e1, e2, e3, e4, e5, e6⟩
        · simp only [Value.slice.injEq] at e
          obtain ⟨rfl, -, rfl⟩ := e
          exact ⟨by omega, fun a h => by cases h⟩
        · simp only [Value.slice.injEq] at e
          obtain ⟨rfl, -, rfl⟩ := e
          unfold maxLen at e4
          exact ⟨by omega, fun a h => ⟨C, (Option.some.inj h).symm⟩⟩
      generalize d1.ord.length = len at *
      clear hd h2 h3 h4 h5 hD hsz hW K2 o l q K q' hdr Kr x2 x3 x4 x5 hrg
      go_wp2_with ((refine wpList_clearM rfl (.tmp 35) 70 rfl 3 37 Tryd.underlying70 bm _ D' rfl hD' ?_); intro wc hwc kc; (have z2 := cell_kx kc hpb y2); (have z3 := frozen_kx kc hpb y2 w2f); (have z4 := World.block_lt_of_cell? _ _ z2); (have HC := Lib.hid (And.intro hwc kc)); clear hwc kc)
      go_ret
      obtain ⟨hdr, q', Kr, x2, x3, x4, x5⟩ := HE.out
      obtain ⟨hwc, kc⟩ := HC.out
      have hok := hdr.ok
      have Kf : Kx (fun j => j = bm ∨ j = p) wr (wc.setCell ⟨p, 2, none⟩ (.slice sa 0 scap)) := (kc.mono (T := fun j => j = bm ∨ j = p) (fun j h => Or.inl h)).setCell (p := ⟨p, 2, none⟩) (Or.inr rfl) _
      have Kp : Kx (fun j => j = p) wc (wc.setCell ⟨p, 2, none⟩ (.slice sa 0 scap)) := (Kx.refl (S := fun j => j = p) wc).setCell (p := ⟨p, 2, none⟩) rfl _
      have x2c := diskAt_kx x2 kc hpb
      have hM : (Value.slice sa 0 scap).ownBlock = M := by rw [← x5]; cases sa <;> rfl
      have hrow : (wc.setCell ⟨p, 2, none⟩ (.slice sa 0 scap)).ownsRow 0 3 1 (.slice sa 0 scap) 0 [] := by
        rcases x4.2 with ⟨e, h0⟩ | ⟨C, ocap, cur, e, e1, e2, e3, e4, e5, e6⟩
        · simp only [Value.slice.injEq] at e
          obtain ⟨rfl, -, rfl⟩ := e
          exact World.ownsRow_nil _ _ _ _
        · simp only [Value.slice.injEq] at e
          obtain ⟨rfl, -, rfl⟩ := e
          have hMC : M = some C := by rw [← x5]; rfl
          exact ⟨rfl, .inr ⟨C, scap, cur, rfl, Nat.zero_le _, heap_kx Kf (fun h => by
            rcases h with h | h
            · exact hne.2.2.2.2.2 (by rw [hMC, h])
            · exact hne.2.2.2.1 (by rw [hMC, h])) e2, Nat.zero_le _, e4, e5, by simp⟩⟩
      clear y1 y2 w2f z2 z3 z4
      have hAt : DiskAt (wc.setCell ⟨p, 2, none⟩ (.slice sa 0 scap)) p (.slice (some ⟨g, 0, none⟩) (d1.n * 64) cap') bm (.slice sa 0 scap) d1.ops d1.cut d1.left d1.off := by
        obtain ⟨c0, c1, c2, c3, c4, c5, c6, f0, f2, f3, f4, f5, f6⟩ := x2c
        clear x2 x3 x4 HE HX
        exact (show DiskAt _ p (.slice (some ⟨g, 0, none⟩) (d1.n * 64) cap') bm (.slice sa 0 scap) d1.ops d1.cut d1.left d1.off from ⟨by go_simp, by go_simp, by go_simp, by go_simp, by go_simp, by go_simp, by go_simp, by go_simp, by go_simp, by go_simp, by go_simp, by go_simp, by go_simp⟩)
      refine ⟨rfl, ⟨G, q', ⟨⟨hok.n1, hok.n2, hok.len, List.nodup_nil, fun k hk => absurd hk List.not_mem_nil, fun k hk => absurd hk List.not_mem_nil, hok.ops, hok.left, hok.lft⟩, ⟨cap', .slice sa 0 scap, hAt, rowOwn_kxS x3 Kf (fun j hj h => ?_), hrow, hM⟩, ⟨.map [], ownsMap_kx hwc Kp (fun h => hpb h.symm), rfl, fun k hk => ⟨fun _ => rfl, fun h => absurd h List.not_mem_nil⟩⟩, hne⟩⟩, (Kr.mono (fun j h => ?_)).trans (Kf.mono (fun j h => ?_))⟩
      · have : g = j := by simpa [Value.ownBlock] using hj
        rcases h with h | h
        · exact hne.2.2.1 (by rw [this, h])
        · exact hne.1 (by rw [this, h])
      · rcases h with h | h | h
        · exact Or.inl (Or.inl h)
        · exact Or.inl (Or.inr (Or.inl h))
        · exact Or.inr h
      · rcases h with h | h
        · exact Or.inl (Or.inr (Or.inr (Or.inl h)))
        · exact Or.inl (Or.inl h)
    · intro x c kl y ps w3 cnt1 hkey hlx hy hat hrg1 hlt hg1 hs1 hen
      have hkl : kl = .int .i64 x := by
        obtain ⟨x', e1, e2, _⟩ := Maps.keyOf_int_inv Tryd.underlying3 hkey
        cases e1; exact e2
      subst hkl
      obtain rfl : y = .held c := ((Prod.mk.inj (Option.some.inj hy)).1).symm
      obtain ⟨hd, h2, h3, h4, h5, hD, hsz, hW, -⟩ := HX.out
      obtain ⟨k, hk1, hk2⟩ := keys_in d1.ord hd.ok.nodup D (hD.tidy KI) hsz (fun k hk => ((hW k (by have := hd.ok.lt k hk; omega)).2 hk).1) _ (has_true_of_atKey hat)
      obtain rfl : x = (k : Int) := (Lit.int.inj hk2).2
      have hkn := hd.ok.lt k hk1
      obtain ⟨-, v, hv, hrv⟩ := (hW k (by omega)).2 hk1
      obtain rfl : c = v := DataW.held.inj ((hat (.map [])).symm.trans (hv _))
      have hF := hd.ok.sz k hk1
      have K3 : Kx (fun j => j = r) wr w3 := grown_kx hg1 (fun j h => (Option.some.inj h).symm)
      have hS3 : SynIn w2 w3 g cap d1 left := by
        obtain ⟨G, o, l, s, K⟩ := HS.out
        exact ⟨G, rowOwn_kxS o K3 (fun j hj h => by have : g = j := by simpa [Value.ownBlock] using hj
                                                    omega), l, s, K.trans (K3.mono (fun j h => Or.inr (by rw [h, HR.out]; exact Nat.le_refl _)))⟩
      have AL : ∃ lc, Calls Tryd.prog 34 #[.pointer (some ⟨p, 0, none⟩), .int .i64 k] w3 fun e w' => e = .returned (.slice (some ⟨g, k * 64, none⟩) 64 lc) ∧ Gr w3 w' := by
        obtain ⟨G, o, l, s, K⟩ := hS3
        obtain ⟨lc, -, h⟩ := d_lasting (d := { d1 with good := G }) k hkn w3 (diskS_goodX hd h2.c0 K o l)
        exact ⟨lc, h⟩
      obtain ⟨lc, AL⟩ := AL
      obtain ⟨VB, Vo, vc, rfl, hvc, -⟩ := row_addr hrv.1 (by omega)
      rw [hF] at hen
      have HAL := Lib.hid AL
      have HS3 := Lib.hid hS3
      have HV := Lib.hid hrv
      have HK := Lib.hid (And.intro hk1 (And.intro hkn hF))
      have HRG := Lib.hid hrg1
      clear hd h2 h3 h4 h5 hD hsz hW AL hS3 hrv hv hat hkey hy hk1 hk2 hF hg1 K3 hvc
      go_wp2_with fail
      go_at_call 34
      refine (HAL.out).mono ?_
      rintro e w4 ⟨rfl, g4⟩
      obtain ⟨G, o3, l3, q3, K3⟩ := HS3.out
      have o4 := rowOwn_kxS (S := fun _ => False) o3 (Kx.of_gr g4) (fun _ _ h => h)
      have K4 : Kx (fun j => j = g ∨ w2.heap.size ≤ j) w2 w4 := K3.trans (Kx.of_gr g4)
      have hv4 := rowOff_kx HV.out K4 (fun j hj => by
        rcases hj with h | h
        · exact Or.inl (Or.inr (Or.inl h))
        · exact Or.inr h)
      have HQ := Lib.hid (And.intro q3 (And.intro l3 (And.intro K4 (And.intro o4 hv4.1))))
      have HG4 := Lib.hid g4
      have sl : k * 64 + (d1.F k).length ≤ G.length := by
        rw [HK.out.2.2, l3]
        have := Nat.mul_le_mul_right 64 (show k + 1 ≤ d1.n from HK.out.2.1)
        omega
      clear o3 l3 q3 K3 o4 K4 hv4 g4
      go_wp2_with ((refine wpList_copy_bytes rfl (.tmp 29) (.tmp 30) rfl 0 g (d1.n * 64) cap G HQ.out.2.2.2.1 (k * 64) 64 lc rfl (d1.F k) VB Vo 64 vc rfl (by rw [← HK.out.2.2]; exact HQ.out.2.2.2.2) (by rw [HK.out.2.2]; decide) sl ?_); intro w5 o5 k5; go_frame)
      obtain ⟨q3, l3, K4, -, -⟩ := HQ.out
      have hok := HX.out.1.ok
      obtain ⟨l5, q5⟩ := syn_step hok HK.out.1 l3 q3
      have HS5 : Hid (SynIn w2 w5 g cap d1 (fun z => left z && !z.sameKey (ik k))) := Lib.hid ⟨_, o5, l5, q5, K4.trans (k5.mono (fun j h => Or.inl h))⟩
      have hrg5 := ranges_kx (ranges_kx (S := fun _ => False) HRG.out (Kx.of_gr HG4.out) (fun h => h) (fun h => h)) k5 (fun h => by have := HX.out.1.ne; exact this.2.2.1 h.symm) (fun h => by omega)
      clear q3 l3 K4 l5 q5 o5 k5 hok
      go_wp2_with fail
      go_roundw
      case rel => exact ⟨_, cnt1, hrg5, HS5⟩
      case measure => rw [hrg5.left_eq, hrg.left_eq]; exact hlt
end
end Go.Proofs.YtkbdhhmkdjajgaaDoor
