/- hull.Hull: the least convex ring -/
import Derived.Test.YtogflfepkddbhaaDoorYi
import Derived.Test.YtogflfepkddbhaaDoorYo
import Derived.Test.YtogflfepkddbhaaDoorOe
namespace Go.Proofs.YtogflfepkddbhaaDoor
set_option linter.unusedVariables false
open Go.ChangeShapes Go.WideShapes Go.ChangeAt Go.RowKit Go.Sort

theorem ownP_base {w : World} {a b : Nat} {v : Value} {l : List Hp.Pt} (h : OwnP w a v l) (hb : b ≤ a) : OwnP w b v l := by
  obtain ⟨h1, h2⟩ := h
  refine ⟨h1, ?_⟩
  rcases h2 with h2 | ⟨g, cap, cur, h3, h4, h5⟩
  · exact .inl h2
  · exact .inr ⟨g, cap, cur, h3, by omega, h5⟩
theorem kxP_grown {S : Nat → Prop} {a b : World} {u v : Value} (h : Grown a b u v) (hS : ∀ k, u.ownBlock = some k → S k) : Kx S a b :=
  ⟨h.1.os, h.1.tape, h.1.output, h.1.size, fun k hk hs => h.1.block k hk (fun e => by
    cases hu : u.ownBlock with
    | none => rw [hu] at e; cases e
    | some j => rw [hu] at e; cases e; exact hs (hS _ hu))⟩
theorem ownP_any {w : World} {base e s : Nat} {v : Value} {n : Nat} {xs : List Value} (h : w.ownsRow base e s v n xs) : ∃ ad c, v = .slice ad n c ∧ n ≤ c ∧ c ≤ 9223372036854775807 := by
  rcases h.2 with ⟨rfl, rfl⟩ | ⟨g, cap, cur, rfl, hb, hg, hn', hc, hs, ht⟩
  · exact ⟨none, 0, rfl, Nat.le_refl _, by decide⟩
  · exact ⟨_, cap, rfl, hn', by unfold maxLen at hc; omega⟩
theorem pt_agg (w : World) : (isAgg 30).run Tryd.prog w = .ok true w := Tryd.isAgg30 w
theorem pt_size (w : World) : (Go.sizeOf 30).run Tryd.prog w = .ok 2 w := Tryd.sizeOf30 w
theorem sorted_pw {d : Array Hp.Pt} (h : SortedIn (ltOf cfP) 0 d.size d) : d.toList.Pairwise (fun p q => ¬ Hp.lexB q p) := by
  rw [List.pairwise_iff_getElem]
  intro i j hi hj hij
  have := h i j (Nat.zero_le _) hij (by simpa using hj)
  rw [ltP, decide_eq_false_iff_not, getElem!_pos d i (by simpa using hi), getElem!_pos d j (by simpa using hj)] at this
  simpa [Hp.lexB] using this
theorem c_sortP {g cap n : Nat} {l : List Hp.Pt} (W0 W : World) (G0 : Gr W0 W) (h : OwnP W W0.heap.size (.slice (some ⟨g, 0, none⟩) n cap) l) (hn : n ≤ 1000000) :
    Calls Tryd.prog 26 #[.slice (some ⟨g, 0, none⟩) n cap, .func (.func 27) #[] #[]] W fun e w' => e = .returned (.tuple #[]) ∧ ∃ s : List Hp.Pt, s.Pairwise (fun p q => ¬ Hp.lexB q p) ∧ (∀ p, p ∈ s ↔ p ∈ l) ∧ OwnP w' W0.heap.size (.slice (some ⟨g, 0, none⟩) n cap) s ∧ Gr W0 w' := by
  obtain ⟨hb, hg, hnl, -⟩ := ownP_blk h
  have eg : ∀ args w, (callFunc 27 args).run Tryd.prog w = .ok (.enter 27 args) w := enters_of Tryd.func27 (by kernel_rfl) rfl
  have hsz : l.toArray.size = n := by simp [hnl]
  have C := AnyQ.slices_SortFunc Tryd.sortP 2 pt_agg pt_size encP encP_len encP_one cfP swoP 27 #[] g 0 cap l.toArray W eg (cmpLaysP g 0 l.toArray.size W) (ownP_holds h) hg (by omega)
  rw [hsz] at C
  refine Calls.mono (show Calls Tryd.prog 26 _ W _ from C) ?_
  rintro e w' ⟨rfl, d', q, os, hp, hs, rfl⟩
  refine ⟨rfl, d'.toList, ?_, ?_, ?_, ?_⟩
  · refine sorted_pw ?_
    rw [hp.1, hsz]; exact hs
  · intro p
    have := hp.2.2.mem_iff (a := p)
    have e1 : (d'.extract 0 n).toList = d'.toList := by
      have : d'.size = n := by rw [hp.1, hsz]
      rw [← this]; simp
    have e2 : (l.toArray.extract 0 n).toList = l := by rw [hnl]; simp
    rw [e1, e2] at this
    exact this
  · exact own_put h (by rw [hp.1]; simp)
  · exact gr_put G0 hb
theorem c_revP {g cap n : Nat} {l : List Hp.Pt} (W0 W : World) (G0 : Gr W0 W) (h : OwnP W W0.heap.size (.slice (some ⟨g, 0, none⟩) n cap) l) (hn : n ≤ 1000000) :
    Calls Tryd.prog 32 #[.slice (some ⟨g, 0, none⟩) n cap] W fun e w' => e = .returned (.tuple #[]) ∧ OwnP w' W0.heap.size (.slice (some ⟨g, 0, none⟩) n cap) l.reverse ∧ Gr W0 w' ∧ ∀ k, k ≠ g → w'.heap[k]? = W.heap[k]? := by
  obtain ⟨hb, hg, hnl, -⟩ := ownP_blk h
  have hsz : l.toArray.size = n := by simp [hnl]
  have C := AnyQ.slices_Reverse Tryd.revP 2 pt_agg pt_size encP encP_len encP_one g 0 cap l.toArray W (ownP_holds h) (by omega)
  rw [hsz] at C
  refine Calls.mono (show Calls Tryd.prog 32 _ W _ from C) ?_
  rintro e w' ⟨rfl, q, rfl⟩
  have e0 : putRowK encP 2 (Sort.ahead W q) g 0 l.toArray.reverse = Sort.grow (putRowK encP 2 (Sort.ahead W q) g 0 l.toArray.reverse) #[] := by
    unfold Sort.grow; simp
  refine ⟨rfl, ?_, ?_, ?_⟩
  · rw [e0]
    have := own_put (q := q) (d := l.toArray.reverse) (os := #[]) h (by simp)
    simpa using this
  · rw [e0]; exact gr_put G0 hb
  · intro k hk
    show (Sort.mapBlock (Sort.ahead W q) g _).heap[k]? = _
    simp only [Sort.mapBlock, Sort.ahead, Array.getElem?_modify]
    rw [if_neg (fun e => hk e.symm)]
theorem ownP_at {a b : World} {base g k c : Nat} {l : List Hp.Pt} (h : OwnP a base (.slice (some ⟨g, 0, none⟩) k c) l) (e : b.heap[g]? = a.heap[g]?) : OwnP b base (.slice (some ⟨g, 0, none⟩) k c) l := by
  obtain ⟨h1, h2⟩ := h
  refine ⟨h1, ?_⟩
  rcases h2 with h2 | ⟨g', cap, cur, h3, h4, h5, h6⟩
  · exact .inl h2
  · cases h3
    exact .inr ⟨g, c, cur, rfl, h4, by rw [e]; exact h5, h6⟩
theorem near_lsP {n : Nat} {X Y : Nat → Int} (h : ∀ k, k < n → nearB (X k) (Y k) = true) : ∀ p ∈ lsP n X Y, nearB p.1 p.2 = true := fun p hp => by
  obtain ⟨k, hk, rfl⟩ := lsP_mem.1 hp
  exact h k hk
theorem pts_len {w : World} {v : Value} {l : List Hp.Pt} {n : Nat} (e : n = l.length) (h : Pts w v l.length (fX l) (fY l)) : Pts w v n (fX l) (fY l) := by rw [e]; exact h
/-- The hull in a row of the call's own, and what it is. -/
def HullTo (W : World) (n : Nat) (X Y : Nat → Int) (e : Ending) (w' : World) : Prop :=
  ∃ (g c k : Nat) (h : List Hp.Pt), e = .returned (.tuple #[.slice (some ⟨g, 0, none⟩) k c, .nilIface]) ∧ OwnP w' W.heap.size (.slice (some ⟨g, 0, none⟩) k c) h ∧ Hp.HullOK (lsP n X Y) k (fun i => h.getD i (0, 0)) ∧ Gr W w'
set_option maxHeartbeats 4000000 in
set_option maxRecDepth 100000 in
theorem hull_no {n : Nat} {X Y : Nat → Int} {v : Value} (W : World) (h : Pts W v n X Y) (h0 : (mnC 1 n X Y).1 ≠ 0) :
    Calls Tryd.prog 9 #[v] W fun e w' => ∃ B, e = .returned (.tuple #[.slice none 0 0, .iface 72 (.pointer (some ⟨B, 0, none⟩))]) ∧ FaultAt w' B hullS (mnC 1 n X Y).2 (mnC 1 n X Y).1 ∧ Gr W w' := by
  have HC := Lib.hid (hcheck_no 1 1 rfl W h (by decide) h0)
  clear h h0
  go_enter Tryd.func9, Tryd.ntmps9
  go_wp2_with fail
  go_at_call 24
  (with_reducible refine (HC.out _ (by go_grown)).mono ?_)
  rintro e w1 ⟨B, rfl, hF, g1⟩
  have HF := Lib.hid hF
  clear hF
  go_wp2_with fail
  go_ret2
  exact ⟨B, rfl, HF.out, g1⟩
set_option maxHeartbeats 20000000 in
set_option maxRecDepth 100000 in
theorem hull_yes {n : Nat} {X Y : Nat → Int} {v : Value} (W : World) (h : Pts W v n X Y) (h0 : (mnC 1 n X Y).1 = 0) :
    Calls Tryd.prog 9 #[v] W (HullTo W n X Y) := by
  obtain ⟨i0, hi0, hz0, hz1, hz2⟩ := info_parts (P := Tryd.prog) (e := 30) (z := zP) (size := 2) (bytes := 16) (by kernel_rfl)
  have HI := Lib.hid (And.intro hi0 (And.intro hz0 (And.intro hz1 hz2)))
  have HC := Lib.hid (hcheck_ok 1 1 rfl W h (by decide) h0)
  obtain ⟨hn1, hn, hnr⟩ := mnC_ok.1 h0
  have HNL := Lib.hid (near_lsP hnr)
  have HCL := Lib.hid (fun w (g : Gr W w) => c_clP w (pts_gr h g) hn1 hn)
  clear h h0 hi0 hz0 hz1 hz2 hnr
  go_enter Tryd.func9, Tryd.ntmps9
  go_wp2_with fail
  go_at_call 24
  (with_reducible refine (HC.out _ (by go_grown)).mono ?_)
  rintro e w1 ⟨rfl, g1⟩
  go_wp2_with fail
  go_at_call 25
  (with_reducible refine (HCL.out _ g1).mono ?_)
  rintro e w2 ⟨u, rfl, o2, g2⟩
  obtain ⟨g, cap, rfl, -, -, -, hc9⟩ := ownP_form o2 (by rw [lsP_len]; omega)
  have G2 : Gr W w2 := Gr.trans g1 g2
  rw [lsP_len] at o2 ⊢
  have O2 := Lib.hid (ownP_base o2 g1.size)
  clear o2 g1 g2
  go_wp2_with fail
  go_at_call 26
  (with_reducible refine (c_sortP W w2 G2 O2.out (by omega)).mono ?_)
  rintro e w3 ⟨rfl, s, hs, hms, o3, G3⟩
  have O3 := Lib.hid o3
  have HS := Lib.hid (And.intro hs hms)
  clear o3 hs hms G2 O2
  go_wp2_with fail
  go_at_call 30
  (with_reducible refine (c_CompP W w3 G3 O3.out hn hn1).mono ?_)
  rintro e w4 ⟨k, rfl, o4, G4⟩
  have hne : lsP n X Y ≠ [] := lsP_ne (by omega)
  have HOK := Lib.hid (Hp.sort_ok HS.out.1 HS.out.2 hne)
  obtain ⟨c, ec⟩ : ∃ c, c = Hp.cmpc s := ⟨_, rfl⟩
  rw [← ec] at o4 HOK
  have hcn : c ≠ [] := by
    rw [ec]; refine Hp.cmpc_ne (fun e => ?_)
    obtain ⟨p, hp⟩ := List.exists_mem_of_ne_nil _ hne
    have := (HS.out.2 p).2 hp
    rw [e] at this; simp at this
  have hcl : c.length ≤ 1000 := by
    rw [ec]
    have := Hp.cmpc_len s
    have e := (ownP_blk O3.out).2.2.1
    omega
  have hcm : ∀ p ∈ c, nearB p.1 p.2 = true := fun p hp => HNL.out p ((HS.out.2 p).1 (by rw [ec] at hp; exact (Hp.cmpc_mem _ _).1 hp))
  obtain ⟨hb4, hg4, hk, hkc⟩ := ownP_blk o4
  have hk0 : 0 < k := by rw [hk]; exact List.length_pos_iff.2 hcn
  have hk9 : (k : Int) ≤ 1000 := by omega
  have HO4 := Lib.hid o4
  have HK := Lib.hid hk
  have HCM := Lib.hid hcm
  have HKR := Lib.hid (show k = c.reverse.length by rw [List.length_reverse]; exact hk)
  have HCN := Lib.hid hcn
  clear ec hcl hcm o4 hk HS O3 G3 hne hcn
  by_cases h1 : k = 1
  · have t1 : ((k : Int) == 1) = true := by simp; omega
    have t2 : (k == 1) = true := by simp; omega
    have H1 := Lib.hid h1
    clear h1
    go_wp2_with fail
    go_ret2
    have e : Hp.hullS c = c := by unfold Hp.hullS; rw [if_pos (by have := HK.out; have := H1.out; omega)]
    have hok := HOK.out
    rw [e, ← HK.out] at hok
    exact ⟨g, cap, k, c, rfl, HO4.out, hok, G4⟩
  have t1 : ((k : Int) == 1) = false := by simp; omega
  have t2 : (k == 1) = false := by simp; omega
  have hk2 : 2 ≤ k := by omega
  clear h1
  go_wp2_with fail
  go_at_call 31
  (with_reducible refine (c_chainP w4 (pts_len HK.out (ownP_pts HO4.out)) HK.out (by omega) HCM.out).mono ?_)
  rintro e w5 ⟨g5, c5, k5, rfl, o5, g45⟩
  have G5 : Gr W w5 := Gr.trans G4 g45
  have hO5 := ownP_gr HO4.out g45
  have hg5 : w4.heap.size ≤ g5 := (ownP_blk o5).1
  have O5 := Lib.hid (And.intro o5 hO5)
  clear o5 hO5 g45
  go_wp2_with fail
  go_at_call 32
  (with_reducible refine (c_revP W w5 G5 O5.out.2 (by omega)).mono ?_)
  rintro e w6 ⟨rfl, o6, G6, hx6⟩
  have o56 := ownP_at O5.out.1 (hx6 g5 (by omega))
  have O6 := Lib.hid (And.intro o6 o56)
  clear o6 o56 hx6 O5 G5
  go_wp2_with fail
  go_at_call 31
  (with_reducible refine (c_chainP (n := k) (l := c.reverse) w6 (pts_len HKR.out (ownP_pts O6.out.1)) HKR.out (by omega) (fun p hp => HCM.out p (List.mem_reverse.1 hp))).mono ?_)
  rintro e w7 ⟨g7, c7, k7, rfl, o7, g67⟩
  have G7 : Gr W w7 := Gr.trans G6 g67
  have o57 := ownP_gr O6.out.2 g67
  obtain ⟨b5, l5, e5, cc5⟩ := ownP_blk o57
  obtain ⟨b7, l7, e7, cc7⟩ := ownP_blk o7
  have L5 : (Hp.chain c).length = k5 := e5.symm
  have L7 : (Hp.chain c.reverse).length = k7 := e7.symm
  have hb5 := Hp.chain_len c
  have hb7 := Hp.chain_len c.reverse
  rw [List.length_reverse] at hb7
  have hk' := HK.out
  have b5' : (k5 : Int) ≤ 1000 := by omega
  have b7' : (k7 : Int) ≤ 1000 := by omega
  obtain ⟨p5, p7⟩ : 1 ≤ k5 ∧ 1 ≤ k7 := by
    rw [← L5, ← L7]
    exact ⟨Hp.chain_one HCN.out, Hp.chain_one (fun e => HCN.out (by simpa using e))⟩
  obtain ⟨q5, h5⟩ : ∃ q, k5 = q + 1 := ⟨k5 - 1, by omega⟩
  obtain ⟨q7, h7⟩ : ∃ q, k7 = q + 1 := ⟨k7 - 1, by omega⟩
  have f5 : (k5 : Int) - 1 = (q5 : Int) := by omega
  have f7 : (k7 : Int) - 1 = (q7 : Int) := by omega
  have i5 : (q5 : Int) ≤ (c5 : Int) := by omega
  have i7 : (q7 : Int) ≤ (c7 : Int) := by omega
  have z5 : (q5 : Int) ≤ 1000 := by omega
  have z7 : (q7 : Int) ≤ 1000 := by omega
  have t5 := ownP_take o57 q5 (by omega)
  have t7 := ownP_take o7 q7 (by omega)
  have e57 : (Hp.chain c).take q5 = (Hp.chain c).dropLast := by rw [List.dropLast_eq_take, L5, h5, Nat.add_sub_cancel]
  have e77 : (Hp.chain c.reverse).take q7 = (Hp.chain c.reverse).dropLast := by rw [List.dropLast_eq_take, L7, h7, Nat.add_sub_cancel]
  rw [e57] at t5
  rw [e77] at t7
  have hfin : Hp.hullS c = (Hp.chain c).dropLast ++ (Hp.chain c.reverse).dropLast := by unfold Hp.hullS; rw [if_neg (by omega)]
  have hok := HOK.out
  rw [hfin] at hok
  obtain ⟨lo, elo⟩ : ∃ x, x = (Hp.chain c).dropLast := ⟨_, rfl⟩
  obtain ⟨up, eup⟩ : ∃ x, x = (Hp.chain c.reverse).dropLast := ⟨_, rfl⟩
  rw [← elo, ← eup] at hok
  rw [← elo] at t5
  rw [← eup] at t7
  have s4 := G4.size
  have T5 := Lib.hid (own_n (ownP_base t5 s4))
  have T7 := Lib.hid t7
  have TL := Lib.hid (And.intro (ownP_blk t5).2.2.1 (ownP_blk t7).2.2.1)
  have HOKF := Lib.hid hok
  have gw7 := G7
  clear hok hfin e57 e77 t5 t7 elo eup L5 L7 hb5 hb7 hk' e5 e7 o57 o7 g67 h5 h7 HOK O6 HO4 HK HKR HCN HCM HNL HC HCL p5 p7 G6 G4 G7
  go_wp2_with fail
  try simp only [List.append]
  refine Oe.wp_region_ordT (R := Kx (fun k => W.heap.size ≤ k)) 11 [(0, false), (1, false), (2, false), (3, false), (4, false), (5, false), (6, false), (7, false), (8, false), (9, false), (10, true)] (by kernel_rfl) (by kernel_rfl) ?_
  intro w8 hw8 KQ hKQ
  have hhw8 := Kx.of_gr (S := (fun k => W.heap.size ≤ k)) hw8
  have gw8 : Gr W w8 := Kx.gr hhw8 (by have gg := gw7; have gs := gg.size; go_grown) (fun k hk => by have hk2 : W.heap.size ≤ k := hk; omega)
  have sw8 := hhw8.size
  clear gw7
  clear hhw8
  repeat (first | (refine Oe.wpO_skip (by simp only [List.getElem?_toArray, List.getElem?_cons_succ, List.getElem?_cons_zero] <;> rfl) rfl ?_; simp only [Act.put, List.setIfInBounds_toArray, List.set_cons_zero, List.set_cons_succ]) | (refine Oe.wpO_pure (by simp only [List.getElem?_toArray, List.getElem?_cons_succ, List.getElem?_cons_zero] <;> rfl) rfl ?_; apply Exists.intro; refine ⟨?_, ?_⟩; (· intro wx gx; clear gx; all_goals (apply Oe.pAt_of_quiet; intro K hK; go_big_quiet_op; first | exact hK _ rfl | (apply Exists.intro; refine ⟨fun _ => ?_, ?_⟩; (· fail); exact hK _ rfl))); try simp only [Act.put, List.setIfInBounds_toArray, List.set_cons_zero, List.set_cons_succ]))
  have s8 := gw8.size
  have K78 := Lib.hid hw8
  refine Oe.wpO_call (by simp only [List.getElem?_toArray, List.getElem?_cons_succ, List.getElem?_cons_zero] <;> rfl) rfl ?_
  intro QS hQS
  refine (wpList_append_own2 _ rfl (.tmp 33) (.tmp 38) 22 rfl W.heap.size 30 i0 zP 2 16 Tryd.underlying22 HI.out.1 HI.out.2.1 HI.out.2.2.1 HI.out.2.2.2 rfl (by decide) (.slice (some ⟨g5, 0, none⟩) q5 c5) q5 (rowL lo) rfl (rowOwn_gr T5.out K78.out) ⟨g7, 0, none⟩ q7 c7 (rowL up) rfl (by rw [rowL_len, ← TL.out.2]) (rowL_news (ownP_gr T7.out K78.out)) (rowL_one _) (by unfold maxLen; omega) (by omega) s8 ?_)
  intro u9 w9 o9 g9
  have hhw9 : Kx (fun k => W.heap.size ≤ k) w8 w9 := kxP_grown g9 (fun k hk => by cases hk; exact Nat.le_trans s4 b5)
  refine hQS _ _ ⟨_, rfl, hhw9, ?_⟩
  clear hQS QS
  have gw9 : Gr W w9 := Kx.gr hhw9 gw8 (fun k hk => by have hk2 : W.heap.size ≤ k := hk; omega)
  have sw9 := hhw9.size
  clear gw8
  clear hhw9
  try simp only [Act.put, List.setIfInBounds_toArray, List.set_cons_zero, List.set_cons_succ]
  repeat (first | (refine Oe.wpO_skip (by simp only [List.getElem?_toArray, List.getElem?_cons_succ, List.getElem?_cons_zero] <;> rfl) rfl ?_; simp only [Act.put, List.setIfInBounds_toArray, List.set_cons_zero, List.set_cons_succ]) | (refine Oe.wpO_pure (by simp only [List.getElem?_toArray, List.getElem?_cons_succ, List.getElem?_cons_zero] <;> rfl) rfl ?_; apply Exists.intro; refine ⟨?_, ?_⟩; (· intro wx gx; clear gx; all_goals (apply Oe.pAt_of_quiet; intro K hK; go_big_quiet_op; first | exact hK _ rfl | (apply Exists.intro; refine ⟨fun _ => ?_, ?_⟩; (· fail); exact hK _ rfl))); try simp only [Act.put, List.setIfInBounds_toArray, List.set_cons_zero, List.set_cons_succ]))
  obtain ⟨ad9, c9, rfl, x1, x2⟩ := ownP_any o9
  have O9 := Lib.hid (And.intro o9 gw9)
  clear o9 g9 x1 x2
  refine Oe.wpO_nil (hKQ _ _ ?_)
  clear hKQ KQ
  go_wp2_with fail
  go_ret2
  have hlen : (lo ++ up).length = q5 + q7 := by rw [List.length_append, ← TL.out.1, ← TL.out.2]
  have oF : OwnP w9 W.heap.size (.slice ad9 (q5 + q7) c9) (lo ++ up) := by
    unfold OwnP
    rw [hlen, rowL_app]
    exact O9.out.1
  have hpos := HOKF.out.pos
  obtain ⟨gg, cc, e, -⟩ := row_form oF hpos
  have hok := HOKF.out
  rw [hlen] at hok
  injection e with e1 e2 e3
  subst e1
  exact ⟨gg, c9, q5 + q7, lo ++ up, rfl, oF, hok, O9.out.2⟩
end Go.Proofs.YtogflfepkddbhaaDoor
