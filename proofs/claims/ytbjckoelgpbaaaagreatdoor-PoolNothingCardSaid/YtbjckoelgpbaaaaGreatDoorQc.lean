/- pool: a page that is pinned first, and one for which there is no room -/
import Derived.Test.YtbjckoelgpbaaaaGreatDoorQb
import Derived.Maps.RangeWalk
namespace Go.Proofs.YtbjckoelgpbaaaaGreatDoor
set_option linter.unusedVariables false
set_option linter.unusedSimpArgs false
open Go.ChangeShapes Go.WideShapes Go.ChangeAt Go.RowKit Go.Maps

theorem zeroH (w : World) : (zeroValue 72).run Tryz.prog w = .ok (.pointer none) w := by kernel_rfl
theorem k0_of : keyOf Tryz.prog 3 (.int .i64 0) = some (ik 0) := ik_of (k := 0) (by omega)
theorem k1_of : keyOf Tryz.prog 3 (.int .i64 1) = some (ik 1) := ik_of (k := 1) (by omega)
theorem kxQ_grown {a b : World} {row : Option Nat} {S : Nat → Prop} (h : a.grownBy b row) (hS : ∀ k, row = some k → S k) : Kx S a b :=
  ⟨h.os, h.tape, h.output, h.size, fun k hk hs => h.block k hk (fun e => hs (hS k e.symm))⟩
theorem rangesQ_kx {P : Program} {k : TypeId} {a b : World} {S : Nat → Prop} {bm r n cnt : Nat} {D : DataW Value} {left : Lit → Bool} (h : a.ranges P k heldE bm r n D left cnt) (K : Kx S a b) (h1 : ¬ S bm) (h2 : ¬ S r) : b.ranges P k heldE bm r n D left cnt := by
  obtain ⟨es, clock, since, seen, c0, hb, F, hs, hD, hr, rest⟩ := h
  exact ⟨es, clock, since, seen, c0, heap_kx K h1 hb, F, hs, hD, heap_kx K h2 hr, rest⟩
/-- A disk on which nothing waits, behind writes elsewhere. -/
theorem diskS_kxN {a b : World} {T : Nat → Prop} {p g bm : Nat} {d : Dk} (h : DiskS a p g bm none d) (ho : d.ord = []) (k : Kx T a b) (hT : ∀ k, T k → ¬ dkZ p g bm none k) : DiskS b p g bm none d := by
  obtain ⟨h1, ⟨cap, ov, h2, h3, h4, h5⟩, ⟨D, h6, h6b, h6c⟩, h7⟩ := h
  refine ⟨h1, ⟨cap, ov, diskAt_kx h2 k (fun hs => hT _ hs (Or.inl rfl)), rowOwn_kxS h3 k (fun j hj hs => ?_), rowOwn_kxS h4 k (fun j hj hs => ?_), h5⟩, ⟨D, ownsMap_kx h6 k (fun hs => hT _ hs (Or.inr (Or.inr (Or.inl rfl)))), h6b, fun k hk => ⟨(h6c k hk).1, fun hin => ?_⟩⟩, h7⟩
  · obtain rfl : g = j := by simpa [Value.ownBlock] using hj
    exact hT _ hs (Or.inr (Or.inl rfl))
  · rw [h5] at hj; cases hj
  · rw [ho] at hin; cases hin
theorem kx_new {S : Nat → Prop} {a b : World} (h : Kx (fun k => S k ∨ a.heap.size ≤ k) a b) : Kx S a b :=
  ⟨h.os, h.tape, h.output, h.size, fun k hk hs => h.block k hk (fun e => e.elim hs (fun h' => by omega))⟩
theorem pageS_kxN {a b : World} {T : Nat → Prop} {B : Nat} {kd id : Int} (h : PageS a B none kd id []) (g : Kx T a b) (hB : ¬ T B) : PageS b B none kd id [] := by
  obtain ⟨sl, xs, h1, h2, h3, h4, h5, h6⟩ := h
  exact ⟨sl, xs, pageAt_kx h1 g hB, h2, h3, h4, rowOwn_kxS h5 g (fun k hk => by rw [h2] at hk; cases hk), fun j hj => absurd hj (by simp)⟩
/-- A pool's cells. -/
def PlAt (w : World) (Q p m : Nat) (pins reads : Int) : Prop := w.heap[Q]? = some (.cells #[.pointer (some ⟨p, 0, none⟩), .int .i64 4, .int .i64 1, .int .i64 0, .map (some m), .int .i64 pins, .int .i64 0, .int .i64 reads, .int .i64 0] 69 (0, 0))
def HoAt (w : World) (h B : Nat) (pins last : Int) : Prop := w.heap[h]? = some (.cells #[.pointer (some ⟨B, 0, none⟩), .int .i64 pins, .int .i64 last, .bool false, .int .i64 0] 76 (0, 0))
theorem pl_none_some {Q p m : Nat} {a b : Int} (W : World) (h : PlAt W Q p m a b) : Calls Tryz.prog 30 #[.pointer (some ⟨Q, 0, none⟩)] W fun e w' => e = .returned (.bool false) ∧ Gr W w' := by
  have c0 : W.cell? ⟨Q, 0, none⟩ = some (.pointer (some ⟨p, 0, none⟩)) := Hm.cell_of_heap h 0
  have z := World.block_lt_of_cell? _ _ c0
  clear h
  go_enter Tryz.func30, Tryz.ntmps30
  go_wp2_with fail
  go_ret
  exact ⟨rfl, by go_grown⟩
theorem pl_pin {Q p m h B : Nat} (W : World) (hQ : PlAt W Q p m 0 1) (hh : HoAt W h B 0 0) (hne : Q ≠ h) :
    Calls Tryz.prog 32 #[.pointer (some ⟨Q, 0, none⟩), .pointer (some ⟨h, 0, none⟩)] W fun e w' => e = .returned (.pointer (some ⟨B, 0, none⟩)) ∧ PlAt w' Q p m 1 1 ∧ HoAt w' h B 1 1 ∧ Kx (fun k => k = Q ∨ k = h) W w' := by
  have q5 : W.cell? ⟨Q, 5, none⟩ = some (.int .i64 0) := Hm.cell_of_heap hQ 5
  have f5 := Hm.frozen_of_heap hQ 5
  have h0 : W.cell? ⟨h, 0, none⟩ = some (.pointer (some ⟨B, 0, none⟩)) := Hm.cell_of_heap hh 0
  have h1 : W.cell? ⟨h, 1, none⟩ = some (.int .i64 0) := Hm.cell_of_heap hh 1
  have h2 : W.cell? ⟨h, 2, none⟩ = some (.int .i64 0) := Hm.cell_of_heap hh 2
  have g1 := Hm.frozen_of_heap hh 1
  have g2 := Hm.frozen_of_heap hh 2
  have zQ := World.block_lt_of_cell? _ _ q5
  have zh := World.block_lt_of_cell? _ _ h0
  have HQ := Lib.hid hQ
  have HH := Lib.hid hh
  clear hQ hh
  go_enter Tryz.func32, Tryz.ntmps32
  go_wp2_with fail
  go_ret
  have K1 : Kx (fun k => k = Q) W (W.setCell ⟨Q, 5, none⟩ (.int .i64 1)) := (Kx.refl (S := fun k => k = Q) W).setCell (p := ⟨Q, 5, none⟩) rfl _
  have a1 : PlAt (W.setCell ⟨Q, 5, none⟩ (.int .i64 1)) Q p m 1 1 := Hm.heap_set_same (i := 5) (v := .int .i64 1) HQ.out
  have b1 : HoAt (W.setCell ⟨Q, 5, none⟩ (.int .i64 1)) h B 0 0 := heap_kx K1 (fun e => hne e.symm) HH.out
  have b2 : HoAt ((W.setCell ⟨Q, 5, none⟩ (.int .i64 1)).setCell ⟨h, 1, none⟩ (.int .i64 1)) h B 1 0 := Hm.heap_set_same (i := 1) (v := .int .i64 1) b1
  have b3 : HoAt (((W.setCell ⟨Q, 5, none⟩ (.int .i64 1)).setCell ⟨h, 1, none⟩ (.int .i64 1)).setCell ⟨h, 2, none⟩ (.int .i64 1)) h B 1 1 := Hm.heap_set_same (i := 2) (v := .int .i64 1) b2
  have K2 : Kx (fun k => k = h) (W.setCell ⟨Q, 5, none⟩ (.int .i64 1)) (((W.setCell ⟨Q, 5, none⟩ (.int .i64 1)).setCell ⟨h, 1, none⟩ (.int .i64 1)).setCell ⟨h, 2, none⟩ (.int .i64 1)) := ((Kx.refl (S := fun k => k = h) _).setCell (p := ⟨h, 1, none⟩) rfl _).setCell (p := ⟨h, 2, none⟩) rfl _
  exact ⟨rfl, heap_kx K2 hne a1, b3, (K1.mono (fun k hk => Or.inl hk)).trans (K2.mono (fun k hk => Or.inr hk))⟩
/-- What a pool of one room holds behind its first pin. -/
def D1 (h : Nat) : DataW Value := (DataW.map []).put (ik 0) (.held (.pointer (some ⟨h, 0, none⟩)))
theorem d1_miss (h : Nat) : Maps.has (D1 h) (ik 1) = false := by unfold D1; rw [has_put_other (ik_ne (by decide))]; rfl
theorem d1_key {h : Nat} {kl : Lit} {c : Value} (hat : ∀ z, (D1 h).atKey kl z = .held c) : kl = ik 0 ∧ c = .pointer (some ⟨h, 0, none⟩) := by
  by_cases e : kl = ik 0
  · subst e
    have := hat (.map [])
    unfold D1 at this
    rw [atKey_put_same (show IsMap (DataW.map ([] : List (Lit × DataW Value))) from ⟨_, rfl⟩) (ik_key 0)] at this
    exact ⟨rfl, (DataW.held.inj this).symm⟩
  · have := hat (.map [])
    unfold D1 at this
    rw [atKey_put_other e] at this
    cases this
section
variable {p g bm : Nat} {d : Dk}
set_option maxHeartbeats 2000000 in
set_option maxRecDepth 100000 in
theorem pl_pin0 {Q m : Nat} (hn : 8 ≤ d.n) (ho : d.ord = []) (hz : ∀ k, k < 8 → d.read k = List.replicate 64 0) (W : World) (H : DiskS W p g bm none d) (hQ : PlAt W Q p m 0 0) (hm : W.ownsMap Tryz.prog 3 heldE m 0 (.map [])) (hQm : Q ≠ m) (hQd : ¬ dkZ p g bm none Q) :
    Calls Tryz.prog 6 #[.pointer (some ⟨Q, 0, none⟩), .int .i64 0] W fun e w' => ∃ B h, e = .returned (.tuple #[.pointer (some ⟨B, 0, none⟩), .nilIface]) ∧ PageS w' B none 0 0 [] ∧ PlAt w' Q p m 1 1 ∧ HoAt w' h B 1 1 ∧ w'.ownsMap Tryz.prog 3 heldE m 1 (D1 h) ∧ Kx (fun k => k = Q ∨ k = m) W w' := by
  have HD := Lib.hid (And.intro H (And.intro hQ hm))
  have zQ := (Array.getElem?_eq_some_iff.1 hQ).1
  have zm := hm.lt
  clear H hQ hm
  go_enter Tryz.func6, Tryz.ntmps6
  go_wp2_with fail
  go_at_call 30
  refine (pl_none_some _ HD.out.2.1).mono ?_
  rintro e w1 ⟨rfl, g1⟩
  have Q1 : PlAt w1 Q p m 0 0 := heap_kx (S := fun _ => False) (Kx.of_gr g1) (fun h => h) HD.out.2.1
  have M1 := ownsMap_kx HD.out.2.2 (Kx.of_gr (S := fun _ => False) g1) (fun h => h)
  have c0 : w1.cell? ⟨Q, 0, none⟩ = some (.pointer (some ⟨p, 0, none⟩)) := Hm.cell_of_heap Q1 0
  have c1 : w1.cell? ⟨Q, 1, none⟩ = some (.int .i64 4) := Hm.cell_of_heap Q1 1
  have c2 : w1.cell? ⟨Q, 2, none⟩ = some (.int .i64 1) := Hm.cell_of_heap Q1 2
  have c4 : w1.cell? ⟨Q, 4, none⟩ = some (.map (some m)) := Hm.cell_of_heap Q1 4
  have c7 : w1.cell? ⟨Q, 7, none⟩ = some (.int .i64 0) := Hm.cell_of_heap Q1 7
  have f7 := Hm.frozen_of_heap Q1 7
  have z1 := World.block_lt_of_cell? _ _ c0
  obtain ⟨es, clock, hb, F, hsz, hD⟩ := M1
  have hes : es.size = 0 := by omega
  have HQ1 := Lib.hid Q1
  have HM1 := Lib.hid (show w1.ownsMap Tryz.prog 3 heldE m 0 (.map []) from ⟨es, clock, hb, F, hsz, hD⟩)
  have HG1 := Lib.hid g1
  clear Q1 F hsz hD g1
  go_wp2_with (first | (at_lookup; (refine wpList_look_miss _ rfl _ _ 67 rfl 3 72 KI Tryz.underlying67 (zeroH _) m 0 (.map []) rfl HM1.out _ (ik 0) rfl k0_of rfl ?_)))
  have hl : (Builtin.len_ #[67] 3 #[.map (some m)]).run Tryz.prog w1.drew = .ok (.int .i64 0) w1.drew := (show (w1.drew).ownsMap Tryz.prog 3 heldE m 0 (.map []) from HM1.out).len Tryz.underlying67 3
  have KQ : Kx (fun k => k = Q) W (w1.drew.setCell ⟨Q, 7, none⟩ (.int .i64 1)) := (Kx.of_gr (S := fun k => k = Q) (show Gr W w1.drew from by have gg := HG1.out; have gs := gg.size; go_grown)).setCell (p := ⟨Q, 7, none⟩) rfl _
  have Q2 : PlAt (w1.drew.setCell ⟨Q, 7, none⟩ (.int .i64 1)) Q p m 0 1 := Hm.heap_set_same (i := 7) (v := .int .i64 1) (show (w1.drew).heap[Q]? = _ from HQ1.out)
  have H2 := diskS_kxN HD.out.1 ho KQ (fun k hk => by have : k = Q := hk; rw [this]; exact hQd)
  have M2 := ownsMap_kx HD.out.2.2 KQ (fun e => hQm e.symm)
  have AR := Lib.hid (pl_read Q hn hz _ H2 (Hm.cell_of_heap Q2 0))
  have H22 := Lib.hid (And.intro KQ (And.intro Q2 M2))
  clear KQ Q2 H2 M2
  go_region
  go_wp2_with fail
  go_at_call 34
  refine (AR.out).mono ?_
  rintro e w3 ⟨B, rfl, hB, hp, g3⟩
  have hsz : (w1.drew.setCell ⟨Q, 7, none⟩ (.int .i64 1)).heap.size = w1.heap.size := by simp
  have s3 := g3.size
  rw [hsz] at s3 hB
  have sW1 := HG1.out.size
  have hBn : B ≠ Q ∧ B ≠ m := ⟨by omega, by omega⟩
  have zB3 : B < w3.heap.size := by
    obtain ⟨sl, xs, h1, -⟩ := hp
    exact World.block_lt_of_cell? _ _ h1.1
  have HP := Lib.hid hp
  have K3 : Kx (fun k => k = Q) W w3 := H22.out.1.trans (Kx.of_gr g3)
  have Q3 : PlAt w3 Q p m 0 1 := heap_kx (S := fun _ => False) (Kx.of_gr g3) (fun h => h) H22.out.2.1
  have M3 := ownsMap_kx H22.out.2.2 (Kx.of_gr (S := fun _ => False) g3) (fun h => h)
  have d4 : w3.cell? ⟨Q, 4, none⟩ = some (.map (some m)) := Hm.cell_of_heap Q3 4
  have zQ3 : Q < w3.heap.size := World.block_lt_of_cell? _ _ d4
  have zm3 := M3.lt
  have HQ3 := Lib.hid (And.intro K3 (And.intro Q3 M3))
  clear hp g3 K3 Q3 M3 hl c0 c1 c2 c4 c7 f7 z1 hb hB hsz
  have M4 := Lib.hid (HQ3.out.2.2.alloc (.cells #[.pointer (some ⟨B, 0, none⟩), .int .i64 0, .int .i64 0, .bool false, .int .i64 0] 76))
  have HN := Lib.hid (heap_alloc_new w3 (.cells #[.pointer (some ⟨B, 0, none⟩), .int .i64 0, .int .i64 0, .bool false, .int .i64 0] 76))
  go_wp2_with (first | (at_mapUpdate; go_loud ((refine wpList_mapUpdate_own _ rfl _ _ _ 67 rfl 3 72 KI Tryz.underlying67 heldE m 0 (.map []) rfl M4.out (by unfold maxLen; omega) _ _ (ik 0) rfl rfl k0_of (.held (.pointer (some ⟨w3.heap.size, 0, none⟩))) [] rfl ?_); intro w5 m5 g5; (have KM : Kx (fun k => k = m) (w3.alloc (.cells #[.pointer (some ⟨B, 0, none⟩), .int .i64 0, .int .i64 0, .bool false, .int .i64 0] 76)) w5 := kxQ_grown g5 (fun k h => (Option.some.inj h).symm)); (have HM5 := Lib.hid (And.intro m5 KM)); clear m5 g5 KM)))
  have Gal : Gr w3 (w3.alloc (.cells #[.pointer (some ⟨B, 0, none⟩), .int .i64 0, .int .i64 0, .bool false, .int .i64 0] 76)) := (Below.refl _ _).alloc (Nat.le_refl _) _
  have Q5 : PlAt w5 Q p m 0 1 := heap_kx HM5.out.2 hQm (heap_kx (S := fun _ => False) (Kx.of_gr Gal) (fun h => h) HQ3.out.2.1)
  have h5 : HoAt w5 w3.heap.size B 0 0 := heap_kx HM5.out.2 (fun e => by omega) HN.out
  have AP := Lib.hid (pl_pin w5 Q5 h5 (by omega))
  have HK5 := Lib.hid ((HQ3.out.1.mono (T := fun k => k = Q ∨ k = m) (fun k hk => Or.inl hk)).trans ((Kx.of_gr Gal).trans (HM5.out.2.mono (fun k hk => Or.inr hk))))
  clear Q5 h5 Gal
  go_wp2_with fail
  go_at_call 32
  refine (AP.out).mono ?_
  rintro e w6 ⟨rfl, q6, h6, K6⟩
  have HR := Lib.hid (And.intro q6 (And.intro h6 K6))
  clear q6 h6 K6
  go_wp2_with fail
  go_ret2
  obtain ⟨q6, h6, K6⟩ := HR.out
  have Gal : Gr w3 (w3.alloc (.cells #[.pointer (some ⟨B, 0, none⟩), .int .i64 0, .int .i64 0, .bool false, .int .i64 0] 76)) := (Below.refl _ _).alloc (Nat.le_refl _) _
  have P5 : PageS w5 B none 0 0 [] := pageS_kxN (pageS_kxN HP.out (Kx.of_gr (S := fun _ => False) Gal) (fun h => h)) HM5.out.2 hBn.2
  have K6' : Kx (fun k => (k = Q ∨ k = m) ∨ W.heap.size ≤ k) W w6 := (HK5.out.mono (fun k hk => Or.inl hk)).trans (K6.mono (fun k hk => by
    rcases hk with h | h
    · exact Or.inl (Or.inl h)
    · exact Or.inr (by omega)))
  refine ⟨B, w3.heap.size, rfl, pageS_kxN P5 K6 (fun h => by rcases h with h | h; exact hBn.1 h; omega), q6, h6, ownsMap_kx HM5.out.1 K6 (fun h => by rcases h with h | h; exact hQm h.symm; omega), kx_new K6'⟩
end
end Go.Proofs.YtbjckoelgpbaaaaGreatDoor
