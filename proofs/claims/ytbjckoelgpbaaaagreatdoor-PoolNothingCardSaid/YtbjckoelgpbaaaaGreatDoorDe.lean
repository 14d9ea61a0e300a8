/- disk: Write -/
import Derived.Test.YtbjckoelgpbaaaaGreatDoorDd
namespace Go.Proofs.YtbjckoelgpbaaaaGreatDoor
set_option linter.unusedVariables false
set_option linter.unusedSimpArgs false
open Go.ChangeShapes Go.WideShapes Go.ChangeAt Go.RowKit Go.Maps

def Dk.wrO (d : Dk) (k : Nat) : List Nat := if k ∈ d.ord then d.ord else d.ord ++ [k]
def Dk.wr (d : Dk) (k : Nat) (L : List UInt8) : Dk := { d with ord := d.wrO k, F := fun j => if j = k then L else d.F j }
theorem wrO_mem {d : Dk} {k j : Nat} : j ∈ d.wrO k ↔ j = k ∨ j ∈ d.ord := by
  unfold Dk.wrO
  by_cases h : k ∈ d.ord
  · rw [if_pos h]
    exact ⟨Or.inr, fun h' => by rcases h' with rfl | h'; exact h; exact h'⟩
  · rw [if_neg h, List.mem_append, List.mem_singleton]
    exact ⟨fun h' => h'.symm, fun h' => h'.symm⟩
theorem wr_ok {d : Dk} {k : Nat} {L : List UInt8} (h : d.ok) (hk : k < d.n) (hL : L.length = 64) : (d.wr k L).ok where
  n1 := h.n1
  n2 := h.n2
  len := h.len
  nodup := by
    show (d.wrO k).Nodup
    unfold Dk.wrO
    by_cases hi : k ∈ d.ord
    · rw [if_pos hi]; exact h.nodup
    · rw [if_neg hi, List.nodup_append]
      exact ⟨h.nodup, by simp, fun a ha b hb e => by rw [List.mem_singleton] at hb; subst hb; subst e; exact hi ha⟩
  lt := fun j hj => by
    rcases wrO_mem.1 hj with rfl | hj
    · exact hk
    · exact h.lt j hj
  sz := fun j hj => by
    show (if j = k then L else d.F j).length = 64
    by_cases e : j = k
    · rw [if_pos e]; exact hL
    · rw [if_neg e]
      rcases wrO_mem.1 hj with h' | hj
      · exact absurd h' e
      · exact h.sz j hj
  ops := h.ops
  left := h.left
  lft := h.lft
theorem nodup_len : ∀ (n : Nat) (l : List Nat), l.Nodup → (∀ x ∈ l, x < n) → l.length ≤ n
  | 0, [], _, _ => Nat.le_refl _
  | 0, a :: _, _, h => absurd (h a List.mem_cons_self) (Nat.not_lt_zero _)
  | n + 1, l, hn, h => by
    by_cases hi : n ∈ l
    · have h1 := nodup_len n (l.erase n) (hn.erase n) (fun x hx => by
        have h2 := (hn.mem_erase_iff).1 hx
        have := h x h2.2
        have := h2.1
        omega)
      have h3 := List.length_erase_of_mem hi
      omega
    · have := nodup_len n l hn (fun x hx => by
        have h1 := h x hx
        have : x ≠ n := fun e => hi (e ▸ hx)
        omega)
      omega
theorem ord_len {d : Dk} (h : d.ok) : d.ord.length ≤ 8192 := Nat.le_trans (nodup_len d.n d.ord h.nodup h.lt) h.n2
theorem kx_mapGrown {a b : World} {m : Nat} (h : a.grownBy b (some m)) : Kx (fun j => j = m) a b :=
  ⟨h.os, h.tape, h.output, h.size, fun k hk hs => h.block k hk (fun e => hs (Option.some.inj e))⟩
/-- A sector has been written: the disk is put together again. -/
theorem wr_mk {a b : World} {p g bm : Nat} {M M' : Option Nat} {d : Dk} {cap : Nat} {ov' v : Value} {D : DataW Value} {k n : Nat} {L : List UInt8} (hok : d.ok) (hk : k < d.n) (hL : L.length = 64)
    (hg : Own a 0 (.slice (some ⟨g, 0, none⟩) (d.n * 64) cap) d.good) (hD : a.ownsMap Tryz.prog 3 heldE bm d.ord.length D) (hsz : Maps.size D = d.ord.length)
    (hW : ∀ k : Nat, k < 10000 → (k ∉ d.ord → Maps.has D (ik k) = false) ∧ (k ∈ d.ord → Maps.has D (ik k) = true ∧ ∃ v, (∀ z, D.atKey (ik k) z = .held v) ∧ RowOff a (dkZ p g bm M) v (d.F k)))
    (hne : p ≠ g ∧ p ≠ bm ∧ g ≠ bm ∧ M ≠ some p ∧ M ≠ some g ∧ M ≠ some bm) (hpa : p < a.heap.size)
    (K : Kx (fun j => j = p ∨ M = some j ∨ j = bm ∨ a.heap.size ≤ j) a b) (hb : DiskAt b p (.slice (some ⟨g, 0, none⟩) (d.n * 64) cap) bm ov' d.ops d.cut d.left d.off)
    (ho : b.ownsRow 0 3 1 ov' (d.wrO k).length ((d.wrO k).map fun (k : Nat) => Value.int .i64 (k : Int))) (hM : ov'.ownBlock = M') (hM' : M' = M ∨ ∃ j, M' = some j ∧ a.heap.size ≤ j)
    (hm : b.ownsMap Tryz.prog 3 heldE bm n (D.put (ik k) (.held v))) (hr : RowOff b (dkZ p g bm M') v L) : DiskS b p g bm M' (d.wr k L) := by
  have hga : g < a.heap.size := (World.ownsRow.lt hg g rfl).2
  have hba : bm < a.heap.size := hD.lt
  have hn2 := hok.n2
  obtain ⟨n1, n2, n3, n4, n5, n6⟩ := hne
  have hnM : ∀ j, j < a.heap.size → M ≠ some j → M' ≠ some j := fun j hj h e => by
    rcases hM' with rfl | ⟨i, rfl, hi⟩
    · exact h e
    · have := Option.some.inj e; omega
  refine ⟨wr_ok hok hk hL, ⟨cap, ov', hb, ?_, ho, hM⟩, ⟨D.put (ik k) (.held v), ?_, ?_, ?_⟩, ⟨n1, n2, n3, hnM p hpa n4, hnM g hga n5, hnM bm hba n6⟩⟩
  · exact rowOwn_kxS hg K (fun j hj hs => by
      obtain rfl : g = j := by simpa [Value.ownBlock] using hj
      rcases hs with h | h | h | h
      · exact n1 h.symm
      · exact n5 h
      · exact n3 h
      · omega)
  · have := ownsMap_tight hm
    have e : Maps.size (D.put (ik k) (.held v)) = (d.wr k L).ord.length := by
      rw [size_put (hD.tidy KI), hsz]
      show _ = (d.wrO k).length
      unfold Dk.wrO
      by_cases hi : k ∈ d.ord
      · rw [if_pos hi, ((hW k (by omega)).2 hi).1]; rfl
      · rw [if_neg hi, ((hW k (by omega)).1 hi), List.length_append]; rfl
    rw [e] at this
    exact this
  · rw [size_put (hD.tidy KI), hsz]
    show _ = (d.wrO k).length
    unfold Dk.wrO
    by_cases hi : k ∈ d.ord
    · rw [if_pos hi, ((hW k (by omega)).2 hi).1]; rfl
    · rw [if_neg hi, ((hW k (by omega)).1 hi), List.length_append]; rfl
  · intro j hj
    by_cases e : j = k
    · subst e
      refine ⟨fun h => absurd (wrO_mem.2 (Or.inl rfl)) h, fun _ => ⟨has_put_same hD.isMap (ik_key j) _, v, fun z => atKey_put_same hD.isMap (ik_key j) _ z, ?_⟩⟩
      show RowOff b (dkZ p g bm M') v (if j = j then L else d.F j)
      rw [if_pos rfl]
      exact hr
    · have hne : ik j ≠ ik k := ik_ne e
      refine ⟨fun h => ?_, fun h => ?_⟩
      · rw [has_put_other hne]
        exact (hW j hj).1 (fun h' => h (wrO_mem.2 (Or.inr h')))
      · have hin : j ∈ d.ord := by
          rcases wrO_mem.1 h with h' | h'
          · exact absurd h' e
          · exact h'
        obtain ⟨e1, u, e2, e3⟩ := (hW j hj).2 hin
        refine ⟨by rw [has_put_other hne]; exact e1, u, fun z => by rw [atKey_put_other hne]; exact e2 z, ?_⟩
        show RowOff b (dkZ p g bm M') u (if j = k then L else d.F j)
        rw [if_neg e]
        refine rowOff_mono (rowOff_kx (rowOff_mono (Z' := fun k => dkZ p g bm M k ∨ a.heap.size ≤ k) e3 (fun k h => h)) K (fun i hi => Or.inl ?_)) (fun i hi => Or.inl ?_)
        · rcases hi with h | h | h | h
          · exact Or.inl (Or.inl h)
          · exact Or.inl (Or.inr (Or.inr (Or.inr h)))
          · exact Or.inl (Or.inr (Or.inr (Or.inl h)))
          · exact Or.inr h
        · rcases hi with h | h | h | h
          · exact Or.inl (Or.inl h)
          · exact Or.inl (Or.inr (Or.inl h))
          · exact Or.inl (Or.inr (Or.inr (Or.inl h)))
          · rcases hM' with rfl | ⟨i', rfl, hi'⟩
            · exact Or.inl (Or.inr (Or.inr (Or.inr h)))
            · obtain rfl := Option.some.inj h
              exact Or.inr hi'
section
variable {p g bm : Nat} {M : Option Nat} {d : Dk}
/-- What a write leaves. -/
def WrDone (W : World) (p g bm : Nat) (M : Option Nat) (d : Dk) (w' : World) : Prop :=
  ∃ M', DiskS w' p g bm M' d ∧ (M' = M ∨ ∃ j, M' = some j ∧ W.heap.size ≤ j) ∧ Kx (fun j => j = p ∨ M = some j ∨ j = bm ∨ W.heap.size ≤ j) W w'
set_option maxHeartbeats 1000000 in
set_option maxRecDepth 100000 in
theorem d_write_in (k : Nat) (hk : k < d.n) (hin : k ∈ d.ord) (ho : d.on) (hn : d.ops < 1000000) {L : List UInt8} (hL : L.length = 64) (ad : Option Addr) (cp : Nat) (W : World) (H : DiskS W p g bm M d) (hR : RowOff W (dkZ p g bm M) (.slice ad 64 cp) L) :
    Calls Tryz.prog 69 #[.pointer (some ⟨p, 0, none⟩), .int .i64 k, .slice ad 64 cp] W fun e w' => e = .returned .nilIface ∧ WrDone W p g bm M (d.opd.wr k L) w' := by
  have hn2 := H.ok.n2
  have A1 := fun w (G : Gr W w) => d_len w (diskS_gr H G)
  have A2 := fun w (G : Gr W w) => d_op_on ho hn w (diskS_gr H G)
  have hp := diskS_lt H
  have t1 : decide ((k : Int) < 0) = false := decide_eq_false (by omega)
  have t2 : decide ((d.n : Int) ≤ (k : Int)) = false := decide_eq_false (by omega)
  have t3 : ¬ (d.n : Int) ≤ (k : Int) := by omega
  have HH := Lib.hid (And.intro H (And.intro hR hL))
  have H1 := Lib.hid A1
  have H2 := Lib.hid A2
  clear A1 A2
  have en : d.opd.n = d.n := rfl
  have eo : d.opd.ord = d.ord := rfl
  rw [← en] at hk
  rw [← eo] at hin
  have HD := Lib.hid (And.intro hk hin)
  clear H hR ho hn hin
  generalize d.opd = d1 at *
  generalize d.n = n at *
  clear eo en
  go_enter Tryz.func69, Tryz.ntmps69
  go_wp2_with fail
  go_at_call 35
  refine ((H1.out _ (by go_grown))).mono ?_
  rintro e w1 ⟨rfl, hw1⟩
  have gw1 : Gr W w1 := Gr.trans (by go_grown) hw1
  clear hw1
  go_wp2_with fail
  go_at_call 94
  refine (H2.out _ gw1).mono ?_
  rintro e w2 ⟨rfl, hd, k2⟩
  have K2 : Kx (fun j => j = p) W w2 := (Kx.of_gr gw1).trans k2
  obtain ⟨cap, ov, h2, h3, h4, h5, hc1, hc2⟩ := diskS_head hd
  obtain ⟨D, hD, hsz, hW⟩ := hd.waits
  obtain ⟨hhas, v0, hv0, -⟩ := (hW k (by omega)).2 HD.out.2
  have hR2 := rowOff_kx HH.out.2.1 K2 (fun j hj => Or.inl (Or.inl hj))
  have c1 := h2.c1
  have hp2 := World.block_lt_of_cell? _ _ c1
  have A3 := Lib.hid (d_clone hR2.1 (by rw [HH.out.2.2]; decide))
  rw [HH.out.2.2] at A3
  have HX := Lib.hid (And.intro hd (And.intro h2 (And.intro h3 (And.intro h4 (And.intro h5 (And.intro hD (And.intro hsz (And.intro hW (And.intro K2 hR2)))))))))
  have hD' := hD
  clear hd h2 h3 h4 h5 hD hsz hW k2 K2 hR2 hc1 hc2 gw1
  go_wp2_with (first | (at_lookup; (refine wpList_look_hit _ rfl _ _ 115 rfl 3 109 KI Tryz.underlying115 (zeroB _) bm _ D rfl hD' _ (ik k) rfl (ik_of (by omega)) hhas v0 hv0 ?_)))
  go_wp2_with fail
  try simp only [List.append]
  refine Od.wp_region_ordT 7 [(0, false), (1, false), (2, false), (3, false), (4, false), (5, false), (6, true)] (by kernel_rfl) (by kernel_rfl) ?_
  intro w4 hw4 KQ hKQ
  have cw4_0_0 : w4.cell? ⟨p, 1, none⟩ = some (.map (some bm)) := cell_gr hw4 (by go_simp)
  have zw4_0 : p < w4.heap.size := World.block_lt_of_cell? _ _ cw4_0_0
  have gw4 : Gr w2 w4 := Gr.trans (by go_grown) hw4
  skip
  clear hw4
  repeat (first | (refine Od.wpO_skip (by simp only [List.getElem?_toArray, List.getElem?_cons_succ, List.getElem?_cons_zero] <;> rfl) rfl ?_; simp only [Act.put, List.setIfInBounds_toArray, List.set_cons_zero, List.set_cons_succ]) | (refine Od.wpO_pure (by simp only [List.getElem?_toArray, List.getElem?_cons_succ, List.getElem?_cons_zero] <;> rfl) rfl ?_; apply Exists.intro; refine ⟨?_, ?_⟩; (· intro wx gx; obtain ⟨mx, rfl⟩ := spread_of_gr gx; clear gx; all_goals (apply Od.pAt_of_quiet; intro K hK; go_big_quiet_op; first | exact hK _ rfl | (apply Exists.intro; refine ⟨fun _ => ?_, ?_⟩; (· fail); exact hK _ rfl))); try simp only [Act.put, List.setIfInBounds_toArray, List.set_cons_zero, List.set_cons_succ]))
  refine Od.wpO_call (by simp only [List.getElem?_toArray, List.getElem?_cons_succ, List.getElem?_cons_zero] <;> rfl) rfl ?_
  intro QS hQS
  go_wp2_with fail
  go_at_call 85
  (with_reducible refine ((A3.out _ gw4)).mono ?_)
  rintro e w5 ⟨g5, cp5, rfl, o5, hw5⟩
  go_wp2_with fail
  apply Exists.intro
  refine ⟨?_, hw5, ?_⟩
  · simp only [Act.put, List.setIfInBounds_toArray, List.set_cons_zero, List.set_cons_succ]; rfl
  have cw5_0_0 : w5.cell? ⟨p, 1, none⟩ = some (.map (some bm)) := cell_gr hw5 (by go_simp)
  have zw5_0 : p < w5.heap.size := World.block_lt_of_cell? _ _ cw5_0_0
  have gw5 : Gr w2 w5 := Gr.trans (by have gg := gw4; have gs := gg.size; go_grown) hw5
  clear gw4 zw4_0 cw4_0_0
  clear hw5
  try simp only [Act.put, List.setIfInBounds_toArray, List.set_cons_zero, List.set_cons_succ]
  repeat (first | (refine Od.wpO_skip (by simp only [List.getElem?_toArray, List.getElem?_cons_succ, List.getElem?_cons_zero] <;> rfl) rfl ?_; simp only [Act.put, List.setIfInBounds_toArray, List.set_cons_zero, List.set_cons_succ]) | (refine Od.wpO_pure (by simp only [List.getElem?_toArray, List.getElem?_cons_succ, List.getElem?_cons_zero] <;> rfl) rfl ?_; apply Exists.intro; refine ⟨?_, ?_⟩; (· intro wx gx; obtain ⟨mx, rfl⟩ := spread_of_gr gx; clear gx; all_goals (apply Od.pAt_of_quiet; intro K hK; go_big_quiet_op; first | exact hK _ rfl | (apply Exists.intro; refine ⟨fun _ => ?_, ?_⟩; (· fail); exact hK _ rfl))); try simp only [Act.put, List.setIfInBounds_toArray, List.set_cons_zero, List.set_cons_succ]))
  refine Od.wpO_nil (hKQ _ _ ?_)
  clear hKQ KQ
  have m5 := ownsMap_kx (S := fun _ => False) hD' (Kx.of_gr gw5) (fun h => h)
  have HO := Lib.hid o5
  clear o5 hD'
  have hol := ord_len HX.out.1.ok
  simp only [List.drop_succ_cons, List.drop_zero]
  go_wp2_with (at_mapUpdate; go_loud ((refine wpList_mapUpdate_own _ rfl _ _ _ 115 rfl 3 109 KI Tryz.underlying115 heldE bm d1.ord.length D rfl m5 (by unfold maxLen; omega) _ _ (ik k) rfl rfl (ik_of (by omega)) (.held (.slice g5 64 cp5)) [] rfl ?_); intro w6 m6 g6; (have HM := Lib.hid (And.intro m6 (kx_mapGrown g6))); clear m6 g6))
  go_wp2_with fail
  go_ret
  obtain ⟨hd, h2, h3, h4, h5, hD, hsz, hW, K2, hR2⟩ := HX.out
  obtain ⟨m6, k6⟩ := HM.out
  have K6 : Kx (fun j => j = bm) w2 w6 := (Kx.of_gr gw5).trans k6
  have n1 := hd.ne
  have hw : d1.wrO k = d1.ord := by unfold Dk.wrO; rw [if_pos HD.out.2]
  have hpg := diskS_zlt hd
  refine ⟨rfl, M, wr_mk hd.ok HD.out.1 hL h3 hD hsz hW n1 hp2 (K6.mono (fun j h => Or.inr (Or.inr (Or.inl h)))) (diskAt_kx h2 K6 (fun h => n1.2.1 h)) ?_ h5 (Or.inl rfl) m6 ?_, Or.inl rfl, ?_⟩
  · rw [hw]
    exact rowOwn_kxS h4 K6 (fun j hj h => by rw [h5] at hj; exact n1.2.2.2.2.2 (by rw [hj, h]))
  · exact rowOff_kx (rowOff_own HO.out (fun j hj => hpg j hj)) k6 (fun j h => Or.inl (Or.inr (Or.inr (Or.inl h))))
  · exact (K2.mono (fun j h => Or.inl h)).trans (K6.mono (fun j h => Or.inr (Or.inr (Or.inl h))))
theorem opd_wrO {d : Dk} {k : Nat} (h : k ∉ d.ord) : d.wrO k = d.ord ++ [k] := by unfold Dk.wrO; rw [if_neg h]
set_option maxHeartbeats 2000000 in
set_option maxRecDepth 100000 in
theorem d_write_out (k : Nat) (hk : k < d.n) (hin : k ∉ d.ord) (ho : d.on) (hn : d.ops < 1000000) {L : List UInt8} (hL : L.length = 64) (ad : Option Addr) (cp : Nat) (W : World) (H : DiskS W p g bm M d) (hR : RowOff W (dkZ p g bm M) (.slice ad 64 cp) L) :
    Calls Tryz.prog 69 #[.pointer (some ⟨p, 0, none⟩), .int .i64 k, .slice ad 64 cp] W fun e w' => e = .returned .nilIface ∧ WrDone W p g bm M (d.opd.wr k L) w' := by
  obtain ⟨i0, hi0, hz0, hz1, hz2⟩ := info_parts (P := Tryz.prog) (e := 3) (z := .int .i64 0) (size := 1) (bytes := 8) (by kernel_rfl)
  have HI := Lib.hid (And.intro hi0 (And.intro hz0 (And.intro hz1 hz2)))
  clear hi0 hz0 hz1 hz2
  have hn2 := H.ok.n2
  have A1 := fun w (G : Gr W w) => d_len w (diskS_gr H G)
  have A2 := fun w (G : Gr W w) => d_op_on ho hn w (diskS_gr H G)
  have hp := diskS_lt H
  have t1 : decide ((k : Int) < 0) = false := decide_eq_false (by omega)
  have t2 : decide ((d.n : Int) ≤ (k : Int)) = false := decide_eq_false (by omega)
  have t3 : ¬ (d.n : Int) ≤ (k : Int) := by omega
  have HH := Lib.hid (And.intro H (And.intro hR hL))
  have H1 := Lib.hid A1
  have H2 := Lib.hid A2
  clear A1 A2
  have en : d.opd.n = d.n := rfl
  have eo : d.opd.ord = d.ord := rfl
  rw [← en] at hk
  rw [← eo] at hin
  have HD := Lib.hid (And.intro hk hin)
  clear H hR ho hn hin
  generalize d.opd = d1 at *
  generalize d.n = n at *
  clear eo en
  go_enter Tryz.func69, Tryz.ntmps69
  go_wp2_with fail
  go_at_call 35
  refine ((H1.out _ (by go_grown))).mono ?_
  rintro e w1 ⟨rfl, hw1⟩
  have gw1 : Gr W w1 := Gr.trans (by go_grown) hw1
  clear hw1
  go_wp2_with fail
  go_at_call 94
  refine (H2.out _ gw1).mono ?_
  rintro e w2 ⟨rfl, hd, k2⟩
  have K2 : Kx (fun j => j = p) W w2 := (Kx.of_gr gw1).trans k2
  obtain ⟨cap, ov, h2, h3, h4, h5, hc1, hc2⟩ := diskS_head hd
  obtain ⟨D, hD, hsz, hW⟩ := hd.waits
  have hhas := (hW k (by omega)).1 HD.out.2
  have hR2 := rowOff_kx HH.out.2.1 K2 (fun j hj => Or.inl (Or.inl hj))
  have hne := hd.ne
  have hol := ord_len hd.ok
  obtain ⟨sa, scap, hov⟩ : ∃ sa scap, ov = .slice sa d1.ord.length scap := by
    rcases h4.2 with ⟨e, h0⟩ | ⟨g', cap', cur, e, _⟩
    · exact ⟨none, 0, by rw [e, h0]⟩
    · exact ⟨_, cap', e⟩
  subst hov
  have c0 := h2.c0
  have c1 := h2.c1
  have c2 := h2.c2
  have hp2 := World.block_lt_of_cell? _ _ c1
  have HX := Lib.hid (And.intro hd (And.intro h2 (And.intro h3 (And.intro h4 (And.intro h5 (And.intro hD (And.intro hsz (And.intro hW (And.intro K2 (And.intro hR2 hne))))))))))
  have hD' := hD
  generalize hln : d1.ord.length = len at c2 hol
  generalize hmp : (d1.ord.map fun (k : Nat) => Value.int .i64 (k : Int)) = xs at h4
  rw [hln] at h4
  have HL := Lib.hid (And.intro hln hmp)
  clear hd h2 h3 h5 hD hsz hW k2 K2 hR2 hc1 hc2 gw1 hne hln hmp
  go_wp2_with (first | (at_lookup; (refine wpList_look_miss _ rfl _ _ 115 rfl 3 109 KI Tryz.underlying115 (zeroB _) bm _ D rfl hD' _ (ik k) rfl (ik_of (by omega)) hhas ?_)) | (at_builtin; go_loud ((refine wpList_append_own2 _ rfl (.tmp 49) (.tmp 51) 36 rfl 0 3 i0 (.int .i64 0) 1 8 Tryz.underlying36 HI.out.1 HI.out.2.1 HI.out.2.2.1 HI.out.2.2.2 rfl (by decide) (.slice sa len scap) len xs rfl (rowOwn_gr h4 (by go_grown)) ⟨w2.heap.size, 0, none⟩ 1 1 [.int .i64 k] rfl rfl (cell_one_new _ _ _) (by intro u hu; simp only [List.mem_cons, List.not_mem_nil, or_false] at hu; subst hu; rfl) (by unfold maxLen; omega) (by omega) (by simp) ?_); intro x3 w3 o3 g3; (obtain ⟨C, cp3, rfl, -⟩ := row_form o3 (by omega)); (have k3 : Kx (fun j => M = some j) w2 w3 := (Kx.of_gr (by go_grown)).trans ((kx_grown g3).mono (fun j h => by rw [← HX.out.2.2.2.2.1, HL.out.1]; exact h))); (have h33 := diskAt_kx HX.out.2.1 k3 HX.out.2.2.2.2.2.2.2.2.2.2.2.2.2.1); (obtain ⟨q0, q1, q2, q3, q4, q5, q6, y0, y2, y3, y4, y5, y6⟩ := h33); (have HO3 := Lib.hid (And.intro o3 (And.intro g3 k3))); clear o3 g3 k3)))
  have hC : M = some C ∨ w2.heap.size ≤ C := by
    obtain ⟨o3, g3, k3⟩ := HO3.out
    rcases g3.2 C rfl with h | h
    · exact Or.inl (by rw [← HX.out.2.2.2.2.1, HL.out.1]; exact h.symm ▸ rfl)
    · refine Or.inr ?_
      simp at h
      omega
  have hne := HX.out.2.2.2.2.2.2.2.2.2.2
  have hCp : C ≠ p := fun e => by
    rcases hC with h | h
    · exact hne.2.2.2.1 (by rw [h, e])
    · omega
  have HK : Hid (DiskAt (w3.setCell ⟨p, 2, none⟩ (.slice (some ⟨C, 0, none⟩) (len + 1) cp3)) p (.slice (some ⟨g, 0, none⟩) (d1.n * 64) cap) bm (.slice (some ⟨C, 0, none⟩) (len + 1) cp3) d1.ops d1.cut d1.left d1.off ∧
      (w3.setCell ⟨p, 2, none⟩ (.slice (some ⟨C, 0, none⟩) (len + 1) cp3)).ownsRow 0 3 1 (.slice (some ⟨C, 0, none⟩) (len + 1) cp3) (len + 1) (xs ++ [.int .i64 k]) ∧
      Kx (fun j => j = p ∨ M = some j) w2 (w3.setCell ⟨p, 2, none⟩ (.slice (some ⟨C, 0, none⟩) (len + 1) cp3))) := Lib.hid (by
    obtain ⟨o3, g3, k3⟩ := HO3.out
    refine ⟨⟨by go_simp, by go_simp, by go_simp, by go_simp, by go_simp, by go_simp, by go_simp, by go_simp, by go_simp, by go_simp, by go_simp, by go_simp, by go_simp⟩, rowOwn_kxS o3 ((Kx.refl (S := fun j => j = p) w3).setCell (p := ⟨p, 2, none⟩) rfl _) (fun j hj h => ?_), (k3.mono (T := fun j => j = p ∨ M = some j) (fun j h => Or.inr h)).setCell (p := ⟨p, 2, none⟩) (Or.inl rfl) _⟩
    have : C = j := by simpa [Value.ownBlock] using hj
    omega)
  clear q0 q1 q2 q3 q4 q5 q6 y0 y2 y3 y4 y5 y6 HO3 c0 c1 c2 h4
  generalize w3.setCell ⟨p, 2, none⟩ (.slice (some ⟨C, 0, none⟩) (len + 1) cp3) = w4 at HK ⊢
  have c1 := HK.out.1.c1
  have K4 := HK.out.2.2
  have s4 := K4.size
  have m4 := ownsMap_kx hD' K4 (fun h => by rcases h with h | h; exact hne.2.1 h.symm; exact hne.2.2.2.2.2 h)
  have hR4 := rowOff_kx HX.out.2.2.2.2.2.2.2.2.2.1 K4 (fun j hj => by rcases hj with h | h; exact Or.inl (Or.inl h); exact Or.inl (Or.inr (Or.inr (Or.inr h))))
  have A3 := Lib.hid (d_clone hR4.1 (by rw [HH.out.2.2]; decide))
  rw [HH.out.2.2] at A3
  clear hR4 hD' K4
  go_wp2_with fail
  try simp only [List.append]
  refine Od.wp_region_ordT 7 [(0, false), (1, false), (2, false), (3, false), (4, false), (5, false), (6, true)] (by kernel_rfl) (by kernel_rfl) ?_
  intro wa hwa KQ hKQ
  have cwa_0_0 : wa.cell? ⟨p, 1, none⟩ = some (.map (some bm)) := cell_gr hwa (by go_simp)
  have zwa_0 : p < wa.heap.size := World.block_lt_of_cell? _ _ cwa_0_0
  have gwa : Gr w4 wa := Gr.trans (by go_grown) hwa
  skip
  clear hwa
  repeat (first | (refine Od.wpO_skip (by simp only [List.getElem?_toArray, List.getElem?_cons_succ, List.getElem?_cons_zero] <;> rfl) rfl ?_; simp only [Act.put, List.setIfInBounds_toArray, List.set_cons_zero, List.set_cons_succ]) | (refine Od.wpO_pure (by simp only [List.getElem?_toArray, List.getElem?_cons_succ, List.getElem?_cons_zero] <;> rfl) rfl ?_; apply Exists.intro; refine ⟨?_, ?_⟩; (· intro wx gx; obtain ⟨mx, rfl⟩ := spread_of_gr gx; clear gx; all_goals (apply Od.pAt_of_quiet; intro K hK; go_big_quiet_op; first | exact hK _ rfl | (apply Exists.intro; refine ⟨fun _ => ?_, ?_⟩; (· fail); exact hK _ rfl))); try simp only [Act.put, List.setIfInBounds_toArray, List.set_cons_zero, List.set_cons_succ]))
  refine Od.wpO_call (by simp only [List.getElem?_toArray, List.getElem?_cons_succ, List.getElem?_cons_zero] <;> rfl) rfl ?_
  intro QS hQS
  go_wp2_with fail
  go_at_call 85
  (with_reducible refine ((A3.out _ gwa)).mono ?_)
  rintro e w5 ⟨g5, cp5, rfl, o5, hw5⟩
  go_wp2_with fail
  apply Exists.intro
  refine ⟨?_, hw5, ?_⟩
  · simp only [Act.put, List.setIfInBounds_toArray, List.set_cons_zero, List.set_cons_succ]; rfl
  have cw5_0_0 : w5.cell? ⟨p, 1, none⟩ = some (.map (some bm)) := cell_gr hw5 (by go_simp)
  have zw5_0 : p < w5.heap.size := World.block_lt_of_cell? _ _ cw5_0_0
  have gw5 : Gr w4 w5 := Gr.trans (by have gg := gwa; have gs := gg.size; go_grown) hw5
  clear gwa zwa_0 cwa_0_0
  clear hw5
  try simp only [Act.put, List.setIfInBounds_toArray, List.set_cons_zero, List.set_cons_succ]
  repeat (first | (refine Od.wpO_skip (by simp only [List.getElem?_toArray, List.getElem?_cons_succ, List.getElem?_cons_zero] <;> rfl) rfl ?_; simp only [Act.put, List.setIfInBounds_toArray, List.set_cons_zero, List.set_cons_succ]) | (refine Od.wpO_pure (by simp only [List.getElem?_toArray, List.getElem?_cons_succ, List.getElem?_cons_zero] <;> rfl) rfl ?_; apply Exists.intro; refine ⟨?_, ?_⟩; (· intro wx gx; obtain ⟨mx, rfl⟩ := spread_of_gr gx; clear gx; all_goals (apply Od.pAt_of_quiet; intro K hK; go_big_quiet_op; first | exact hK _ rfl | (apply Exists.intro; refine ⟨fun _ => ?_, ?_⟩; (· fail); exact hK _ rfl))); try simp only [Act.put, List.setIfInBounds_toArray, List.set_cons_zero, List.set_cons_succ]))
  refine Od.wpO_nil (hKQ _ _ ?_)
  clear hKQ KQ
  have m5 := ownsMap_kx (S := fun _ => False) m4 (Kx.of_gr gw5) (fun h => h)
  have HO := Lib.hid o5
  clear o5 m4
  have hol2 : d1.ord.length ≤ 8192 := by rw [HL.out.1]; exact hol
  simp only [List.drop_succ_cons, List.drop_zero]
  go_wp2_with (at_mapUpdate; go_loud ((refine wpList_mapUpdate_own _ rfl _ _ _ 115 rfl 3 109 KI Tryz.underlying115 heldE bm d1.ord.length D rfl m5 (by unfold maxLen; omega) _ _ (ik k) rfl rfl (ik_of (by omega)) (.held (.slice g5 64 cp5)) [] rfl ?_); intro w6 m6 g6; (have HM := Lib.hid (And.intro m6 (kx_mapGrown g6))); clear m6 g6))
  go_wp2_with fail
  go_ret
  obtain ⟨hd, h2, h3, h4, h5, hD, hsz, hW, K2, hR2, n1⟩ := HX.out
  obtain ⟨m6, k6⟩ := HM.out
  obtain ⟨q4, o4, K4⟩ := HK.out
  have K46 : Kx (fun j => j = bm) w4 w6 := (Kx.of_gr gw5).trans k6
  have K6 : Kx (fun j => j = p ∨ M = some j ∨ j = bm ∨ w2.heap.size ≤ j) w2 w6 := (K4.mono (fun j h => by rcases h with h | h; exact Or.inl h; exact Or.inr (Or.inl h))).trans (K46.mono (fun j h => Or.inr (Or.inr (Or.inl h))))
  have hw := opd_wrO HD.out.2
  have hpg := diskS_zlt hd
  have hCb : C ≠ bm := fun e => by
    rcases hC with h | h
    · exact n1.2.2.2.2.2 (by rw [h, e])
    · have := hpg bm (Or.inr (Or.inr (Or.inl rfl))); omega
  have hMn : some C = M ∨ ∃ j, some C = some j ∧ w2.heap.size ≤ j := by
    rcases hC with h | h
    · exact Or.inl h.symm
    · exact Or.inr ⟨C, rfl, h⟩
  have s2 := K2.size
  refine ⟨rfl, some C, wr_mk hd.ok HD.out.1 hL h3 hD hsz hW n1 hp2 K6 (diskAt_kx q4 K46 (fun h => n1.2.1 h)) ?_ rfl hMn m6 ?_, ?_, ?_⟩
  · rw [hw, List.length_append, List.length_singleton, HL.out.1, List.map_append, HL.out.2]
    exact rowOwn_kxS o4 K46 (fun j hj h => by have : C = j := by simpa [Value.ownBlock] using hj
                                              omega)
  · exact rowOff_kx (rowOff_own HO.out (fun j hj => by
      rcases hj with h | h | h | h
      · have := hpg p (Or.inl rfl); omega
      · have := hpg g (Or.inr (Or.inl rfl)); omega
      · have := hpg bm (Or.inr (Or.inr (Or.inl rfl))); omega
      · obtain rfl := Option.some.inj h
        exact (World.ownsRow.lt o4 C rfl).2)) k6 (fun j h => Or.inl (Or.inr (Or.inr (Or.inl h))))
  · rcases hMn with h | ⟨j, h, hj⟩
    · exact Or.inl h
    · exact Or.inr ⟨j, h, by omega⟩
  · exact (K2.mono (fun j h => Or.inl h)).trans (K6.mono (fun j h => by rcases h with h | h | h | h; exact Or.inl h; exact Or.inr (Or.inl h); exact Or.inr (Or.inr (Or.inl h)); exact Or.inr (Or.inr (Or.inr (by omega)))))
end
end Go.Proofs.YtbjckoelgpbaaaaGreatDoor
