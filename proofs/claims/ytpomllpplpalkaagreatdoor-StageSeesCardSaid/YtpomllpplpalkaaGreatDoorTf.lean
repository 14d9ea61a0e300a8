import Derived.Test.YtpomllpplpalkaaGreatDoorTd
/- stage: do, Put, Del -/
namespace Go.Proofs.YtpomllpplpalkaaGreatDoor
set_option linter.unusedVariables false
set_option linter.unusedSimpArgs false
open Go.ChangeShapes Go.WideShapes Go.ChangeAt Go.RowKit Go.Maps

theorem cells_newT (w : World) (arr : Array Value) (t : TypeId) (l : List Value) (e : arr.toList = l) : ∀ j u, l[j]? = some u → (w.alloc (.cells arr t)).cell? ((⟨w.heap.size, 0, none⟩ : Addr).add j) = some u := fun j u hj => by
  have hb : (w.alloc (.cells arr t)).heap[w.heap.size]? = some (.cells arr t (0, 0)) := by show (w.heap.push _)[w.heap.size]? = _; exact Array.getElem?_push_size
  rw [addAt_w, Nat.zero_add, Hm.cell_of_heap hb j, ← hj, ← e]
  simp
theorem apN_n {s : Int → Option MO} {kd id k : Int} {n : Nat} {X Y : Nat → Int} (h : apN s kd id k n X Y = 0) : n ≤ 1000 := by
  have hc : chgC kd id k n X Y = 0 := by
    by_cases e : chgC kd id k n X Y = 0
    · exact e
    · unfold apN at h; rw [if_pos e] at h; exact absurd h e
  rcases (chgC_ok hc).2.2 with ⟨-, ho⟩ | ⟨-, -, e⟩
  · have := objC_near ho; omega
  · omega
section
variable {W w : World} {N k : Nat} {Q : Nat → Nat} {M : Nat → Option Nat} {σ : Nat → Int → Option MO} {S b j : Nat} {op : Bool} {G : List CS}
def DoTo (W : World) (N k : Nat) (Q : Nat → Nat) (σ : Nat → Int → Option MO) (S b j : Nat) (op : Bool) (G : List CS) (c : CS) (e : Ending) (w' : World) : Prop := ∃ u M', e = .returned u ∧ WErr stageS w' u c.id (doC op G (σ j) c) ∧ StF W w' (N + 1) k Q M' (fun a => if a = j then doS op G (σ j) c else σ a) S b j op (doG op G (σ j) c)
theorem do_no (F : StF W w N k Q M σ S b j op G) {c : CS} {w' : World} (g : Gr w w') (h : doC op G (σ j) c ≠ 0) {F' : Nat} {op' : ByteArray} (hw : WErr stageS w' (.iface 108 (.pointer (some ⟨F', 0, none⟩))) c.id (doC op G (σ j) c)) : DoTo W N k Q σ S b j op G c (.returned (.iface 108 (.pointer (some ⟨F', 0, none⟩)))) w' := by
  have e1 : doS op G (σ j) c = σ j := if_neg h
  have e2 : doG op G (σ j) c = G := if_neg h
  refine ⟨_, M, rfl, hw, ?_⟩
  rw [e1, e2]
  exact ((F.to g).le (Nat.le_succ _)).as (fun i hi => by
    by_cases e : i = j
    · subst e; simp only [if_true]
    · simp only [e, if_false])
set_option maxHeartbeats 4000000 in
set_option maxRecDepth 100000 in
theorem st_do {kd id kk : Int} {n : Nat} {X Y : Nat → Int} {v : Value} (hi : i64R id) (hN : N < 1000000) (F : StF W w N k Q M σ S b j op G) (hG : G.length ≤ 1000) (h : PtsF w W.heap.size v n X Y) :
    Calls Tryz.prog 59 #[.pointer (some ⟨S, 0, none⟩), .agg #[.int .i64 kd, .int .i64 id, .int .i64 kk, v]] w fun e w' => DoTo W N k Q σ S b j op G ⟨kd, id, ⟨kk, n, X, Y⟩⟩ e w' := by
  obtain ⟨i0, hi0, hz0, hz1, hz2⟩ := info_parts (P := Tryz.prog) (e := 50) (z := .agg #[.int .i64 0, .int .i64 0, .int .i64 0, .slice none 0 0]) (size := 4) (bytes := 48) (by kernel_rfl)
  have HI := Lib.hid (And.intro hi0 (And.intro hz0 (And.intro hz1 hz2)))
  clear hi0 hz0 hz1 hz2
  obtain ⟨cv, L, hh, hr, hL⟩ := F.row
  have hLG : L.length = G.length := by rw [← hL, List.length_map]
  have HF := Lib.hid F
  have HR := Lib.hid (And.intro hr (And.intro hL hh))
  have HP := Lib.hid h
  have HZ := Lib.hid hi
  have hSW := F.hS
  have AE := Lib.hid (fun w' (g : Gr w w') => st_ended w' (heap_kx (S := fun _ => False) (Kx.of_gr g) (fun h => h) hh))
  have c1 : w.cell? ⟨S, 1, none⟩ = some (.pointer (some ⟨Q j, 0, none⟩)) := Hm.cell_of_heap hh 1
  have c2 : w.cell? ⟨S, 2, none⟩ = some cv := Hm.cell_of_heap hh 2
  have f2 := Hm.frozen_of_heap hh 2
  have zS := World.block_lt_of_cell? _ _ c2
  obtain ⟨ad0, cp0, ecv, hcp, hcp2⟩ := own_any hr.own
  obtain ⟨ad, cap, _, _, rfl, -⟩ := h.1
  clear h hi hr hL hh F
  go_enter Tryz.func59, Tryz.ntmps59
  go_wp2_with fail
  go_at_call 56
  refine ((AE.out _ (by go_grown))).mono ?_
  rintro e w1 ⟨rfl, hw1⟩
  have cw1_0_0 : w1.cell? ⟨w.heap.size, 0, none⟩ = some (.int .i64 kd) := cell_gr hw1 (by go_simp)
  have cw1_0_1 : w1.cell? ⟨w.heap.size, 1, none⟩ = some (.int .i64 id) := cell_gr hw1 (by go_simp)
  have cw1_0_2 : w1.cell? ⟨w.heap.size, 2, none⟩ = some (.int .i64 kk) := cell_gr hw1 (by go_simp)
  have cw1_0_3 : w1.cell? ⟨w.heap.size, 3, none⟩ = some (.slice ad n cap) := cell_gr hw1 (by go_simp)
  have zw1_0 : w.heap.size < w1.heap.size := World.block_lt_of_cell? _ _ cw1_0_0
  have gw1 : Gr w w1 := Gr.trans (by go_grown) hw1
  clear hw1
  have d1 := cell_gr gw1 c1
  have d2 := cell_gr gw1 c2
  have e2 := frozen_gr gw1 c2 f2
  have zS1 := World.block_lt_of_cell? _ _ d2
  clear c1 c2 f2 zS AE
  cases op with
  | false =>
    go_wp2_with fail
    go_at_call 57
    refine (md_fNew stageS id 11 _).mono ?_
    rintro e w2 ⟨F', rfl, hf, g2⟩
    have HE := Lib.hid (And.intro (faultAt_werr (k := 11) (by decide) hf) (Gr.trans gw1 g2))
    clear hf g2
    go_wp2_with fail
    go_ret
    exact do_no (op' := stageS) HF.out HE.out.2 (by show (11 : Nat) ≠ 0; decide) HE.out.1
  | true =>
    subst ecv
    have hLi : (L.length : Int) ≤ 1000 := by omega
    have HLG := Lib.hid hLG
    clear hLG
    by_cases h32 : 32 ≤ L.length
    · have t1 : decide ((32 : Int) ≤ (L.length : Int)) = true := decide_eq_true (by omega)
      have t2 : decide (32 ≤ L.length) = true := decide_eq_true h32
      have HC : Hid (doC true G (σ j) ⟨kd, id, ⟨kk, n, X, Y⟩⟩ = 13) := Lib.hid (by unfold doC; rw [if_neg (by decide), if_pos (by have := HLG.out; omega)])
      go_wp2_with fail
      go_at_call 57
      refine (md_fNew stageS id 13 _).mono ?_
      rintro e w2 ⟨F', rfl, hf, g2⟩
      have HE := Lib.hid (And.intro (faultAt_werr (k := 13) (by decide) hf) (Gr.trans gw1 g2))
      clear hf g2
      go_wp2_with fail
      go_ret
      exact do_no (op' := stageS) HF.out HE.out.2 (by rw [HC.out]; decide) (by rw [HC.out]; exact HE.out.1)
    · have t1 : decide ((32 : Int) ≤ (L.length : Int)) = false := decide_eq_false (by omega)
      have t2 : decide (32 ≤ L.length) = false := decide_eq_false h32
      have HC : Hid (doC true G (σ j) ⟨kd, id, ⟨kk, n, X, Y⟩⟩ = apN (σ j) kd id kk n X Y) := Lib.hid (by unfold doC; rw [if_neg (by decide), if_neg (by have := HLG.out; omega)])
      have HF1 := Lib.hid (HF.out.to gw1)
      have HG1 := Lib.hid gw1
      have AA := Lib.hid (fun w' (g : Gr w1 w') => md_Apply (kd := kd) (k := kk) (v := .slice ad n cap) HZ.out hN w' ((HF1.out.to g).fam.md j HF.out.hj) (pts_gr HP.out.1 (Gr.trans HG1.out g)))
      have hlt : Q j < w.heap.size := mdAt_ltQ (HF.out.fam.md j HF.out.hj)
      have hltM : ∀ x, M j = some x → x < w.heap.size := fun x hx => mdAt_ltM (HF.out.fam.md j HF.out.hj) hx
      have HLT := Lib.hid (And.intro hlt hltM)
      obtain ⟨q, hq⟩ : ∃ q, q = Q j := ⟨_, rfl⟩
      rw [← hq] at d1 AA hlt
      have HQ := Lib.hid hq
      clear hltM hq gw1
      have gw1 := HG1.out
      go_wp2_with fail
      try simp only [List.append]
      refine Od.wp_region_ordT 5 [(0, false), (1, false), (2, false), (3, false), (4, false)] (by kernel_rfl) (by kernel_rfl) ?_
      intro w2 hw2 KQ hKQ
      have s1 := cell_gr hw2 d1
      have s2 := cell_gr hw2 d2
      have fs2 := frozen_gr hw2 d2 e2
      have b0 : w2.cell? ⟨w.heap.size, 0, none⟩ = some (.int .i64 kd) := cell_gr hw2 cw1_0_0
      have b1 : w2.cell? ⟨w.heap.size, 1, none⟩ = some (.int .i64 id) := cell_gr hw2 cw1_0_1
      have b2 : w2.cell? ⟨w.heap.size, 2, none⟩ = some (.int .i64 kk) := cell_gr hw2 cw1_0_2
      have b3 : w2.cell? ⟨w.heap.size, 3, none⟩ = some (.slice ad n cap) := cell_gr hw2 cw1_0_3
      have zS2 := World.block_lt_of_cell? _ _ s2
      have zb2 := World.block_lt_of_cell? _ _ b0
      have HG2 := Lib.hid hw2
      clear hw2 d1 d2 e2 zS1 cw1_0_0 cw1_0_1 cw1_0_2 cw1_0_3 zw1_0
      repeat (first | (refine Od.wpO_skip (by simp only [List.getElem?_toArray, List.getElem?_cons_succ, List.getElem?_cons_zero] <;> rfl) rfl ?_; simp only [Act.put, List.setIfInBounds_toArray, List.set_cons_zero, List.set_cons_succ]) | (refine Od.wpO_pure (by simp only [List.getElem?_toArray, List.getElem?_cons_succ, List.getElem?_cons_zero] <;> rfl) rfl ?_; apply Exists.intro; refine ⟨?_, ?_⟩; (· intro wx gx; obtain ⟨mx, rfl⟩ := spread_of_gr gx; clear gx; all_goals (apply Od.pAt_of_quiet; intro K hK; go_big_quiet_op; first | exact hK _ rfl | (apply Exists.intro; refine ⟨fun _ => ?_, ?_⟩; (· fail); exact hK _ rfl))); try simp only [Act.put, List.setIfInBounds_toArray, List.set_cons_zero, List.set_cons_succ]))
      refine Od.wpO_nil (hKQ _ _ ?_)
      clear hKQ KQ
      go_wp2_with fail
      go_at_call 27
      refine (AA.out _ HG2.out).mono ?_
      rintro e w3 h3
      have h3' := h3
      obtain ⟨_, _, _, -, -, -, -, -, K3⟩ := h3'
      rw [HQ.out] at h3
      obtain ⟨o3, u, M3, rfl, hu, ho3, F3⟩ := (HF1.out.to HG2.out).done HF.out.hj h3
      have hnS : ∀ i, (i = q ∨ M j = some i) → i ≠ S ∧ i ≠ w.heap.size := fun i hi => ⟨by
        rw [HQ.out] at hi
        rintro rfl
        obtain ⟨cv', L', hh', -⟩ := HF.out.row
        exact HF.out.fam.at HF.out.hj hi (T := 102) (by decide) _ _ hh', by
        rcases hi with e | e
        · omega
        · have := HLT.out.2 i e; omega⟩
      have k2 : w3.cell? ⟨S, 2, none⟩ = some (.slice ad0 L.length cp0) := cell_kx K3 (p := ⟨S, 2, none⟩) (fun e => (hnS _ e).1 rfl) s2
      have kf2 := frozen_kx (p := ⟨S, 2, none⟩) K3 (fun e => (hnS _ e).1 rfl) s2 fs2
      have a0 := cell_kx K3 (p := ⟨w.heap.size, 0, none⟩) (fun e => (hnS _ e).2 rfl) b0
      have a1 := cell_kx K3 (p := ⟨w.heap.size, 1, none⟩) (fun e => (hnS _ e).2 rfl) b1
      have a2 := cell_kx K3 (p := ⟨w.heap.size, 2, none⟩) (fun e => (hnS _ e).2 rfl) b2
      have a3 := cell_kx K3 (p := ⟨w.heap.size, 3, none⟩) (fun e => (hnS _ e).2 rfl) b3
      have zS3 := World.block_lt_of_cell? _ _ k2
      have zb3 := World.block_lt_of_cell? _ _ a0
      have HF3 := Lib.hid F3
      have HH3 : Hid (w3.heap[S]? = some (.cells #[.pointer (some ⟨Q b, 0, none⟩), .pointer (some ⟨Q j, 0, none⟩), .slice ad0 L.length cp0, .bool true] 102 (0, 0))) := Lib.hid (heap_kx K3 (fun e => (hnS _ e).1 rfl) (heap_kx (S := fun _ => False) (Kx.of_gr (Gr.trans HG1.out HG2.out)) (fun h => h) HR.out.2.2))
      have HP3 : Hid (PtsF w3 W.heap.size (.slice ad n cap) n X Y) := Lib.hid (ptsF_ty (ptsF_gr HP.out (Gr.trans HG1.out HG2.out)) K3 (fun B hf e => by
        rw [HQ.out] at e
        exact fr2_no hf ((HF1.out.to HG2.out).fam.at HF.out.hj e (by decide)) rfl))
      have HR3 : Hid (ChRow w3 W.heap.size (.slice ad0 L.length cp0) L) := Lib.hid ((HR.out.1.gr (Gr.trans HG1.out HG2.out)).ty K3 (fun i e => by
        rw [HQ.out] at e
        exact ⟨(HF1.out.to HG2.out).fam.at HF.out.hj e (by decide), (HF1.out.to HG2.out).fam.at HF.out.hj e (by decide)⟩))
      have hs23 := K3.size
      have hs13 := (Gr.trans HG1.out HG2.out).size
      clear b0 b1 b2 b3 s1 s2 fs2 zS2 zb2 K3 F3 hnS h3 AA
      rcases hu with ⟨rfl, hc⟩ | ⟨B', x, d, rfl, k1, k15, h4, h5, h6, h7⟩
      · have HN := Lib.hid (apN_n hc)
        have HC2 : Hid (doC true G (σ j) ⟨kd, id, ⟨kk, n, X, Y⟩⟩ = 0) := Lib.hid (by rw [HC.out]; exact hc)
        have gw3 : Gr W w3 := HF3.out.fam.gr
        have hbx : W.heap.size ≤ w.heap.size := HF.out.fam.gr.size
        have hlen : L.length + 1 ≤ 33 := by omega
        have HGK : Hid (∀ k, (Value.slice ad0 L.length cp0).ownBlock = some k → W.heap.size ≤ k ∧ k ≠ w.heap.size ∧ k ≠ S) := Lib.hid (fun k hk => ⟨(World.ownsRow.lt HR.out.1.own k hk).1, Nat.ne_of_lt (World.ownsRow.lt HR.out.1.own k hk).2, fun e => by
          obtain ⟨-, cur, hc⟩ := own_tyC HR.out.1.own hk
          rw [e, HR.out.2.2] at hc
          simp at hc⟩)
        clear hc
        go_wp2_with fail
        try simp only [List.append]
        refine Oe.wp_region_ordT (R := Kx (fun k => W.heap.size ≤ k ∧ k ≠ w.heap.size ∧ k ≠ S)) 8 [(0, false), (1, false), (2, false), (3, false), (4, false), (5, false), (6, true), (7, true)] (by kernel_rfl) (by kernel_rfl) ?_
        intro w4 hw4 KQ hKQ
        have hhw4 := Kx.of_gr (S := (fun k => W.heap.size ≤ k ∧ k ≠ w.heap.size ∧ k ≠ S)) hw4
        have cw4_0_0 : w4.cell? ⟨w.heap.size, 0, none⟩ = some (.int .i64 kd) := cell_kx hhw4 (by show ¬ (W.heap.size ≤ w.heap.size ∧ w.heap.size ≠ w.heap.size ∧ w.heap.size ≠ S); omega) (by go_simp)
        have cw4_0_1 : w4.cell? ⟨w.heap.size, 1, none⟩ = some (.int .i64 id) := cell_kx hhw4 (by show ¬ (W.heap.size ≤ w.heap.size ∧ w.heap.size ≠ w.heap.size ∧ w.heap.size ≠ S); omega) (by go_simp)
        have cw4_0_2 : w4.cell? ⟨w.heap.size, 2, none⟩ = some (.int .i64 kk) := cell_kx hhw4 (by show ¬ (W.heap.size ≤ w.heap.size ∧ w.heap.size ≠ w.heap.size ∧ w.heap.size ≠ S); omega) (by go_simp)
        have cw4_0_3 : w4.cell? ⟨w.heap.size, 3, none⟩ = some (.slice ad n cap) := cell_kx hhw4 (by show ¬ (W.heap.size ≤ w.heap.size ∧ w.heap.size ≠ w.heap.size ∧ w.heap.size ≠ S); omega) (by go_simp)
        have zw4_0 : w.heap.size < w4.heap.size := World.block_lt_of_cell? _ _ cw4_0_0
        have cw4_1_0 : w4.cell? ⟨S, 2, none⟩ = some (.slice ad0 L.length cp0) := cell_kx hhw4 (by show ¬ (W.heap.size ≤ S ∧ S ≠ w.heap.size ∧ S ≠ S); omega) (by go_simp)
        have zw4_1 : S < w4.heap.size := World.block_lt_of_cell? _ _ cw4_1_0
        have gw4 : Gr W w4 := Kx.gr hhw4 (by have gg := gw3; have gs := gg.size; go_grown) (fun k hk => by have hk2 : W.heap.size ≤ k ∧ k ≠ w.heap.size ∧ k ≠ S := hk; omega)
        have sw4 := hhw4.size
        clear gw3
        clear hhw4
        repeat (first | (refine Oe.wpO_skip (by simp only [List.getElem?_toArray, List.getElem?_cons_succ, List.getElem?_cons_zero] <;> rfl) rfl ?_; simp only [Act.put, List.setIfInBounds_toArray, List.set_cons_zero, List.set_cons_succ]) | (refine Oe.wpO_pure (by simp only [List.getElem?_toArray, List.getElem?_cons_succ, List.getElem?_cons_zero] <;> rfl) rfl ?_; apply Exists.intro; refine ⟨?_, ?_⟩; (· intro wx gx; have cx_0_0 : wx.cell? ⟨w.heap.size, 0, none⟩ = some (.int .i64 kd) := cell_kx gx (by show ¬ (W.heap.size ≤ w.heap.size ∧ w.heap.size ≠ w.heap.size ∧ w.heap.size ≠ S); omega) cw4_0_0; have cx_0_1 : wx.cell? ⟨w.heap.size, 1, none⟩ = some (.int .i64 id) := cell_kx gx (by show ¬ (W.heap.size ≤ w.heap.size ∧ w.heap.size ≠ w.heap.size ∧ w.heap.size ≠ S); omega) cw4_0_1; have cx_0_2 : wx.cell? ⟨w.heap.size, 2, none⟩ = some (.int .i64 kk) := cell_kx gx (by show ¬ (W.heap.size ≤ w.heap.size ∧ w.heap.size ≠ w.heap.size ∧ w.heap.size ≠ S); omega) cw4_0_2; have cx_0_3 : wx.cell? ⟨w.heap.size, 3, none⟩ = some (.slice ad n cap) := cell_kx gx (by show ¬ (W.heap.size ≤ w.heap.size ∧ w.heap.size ≠ w.heap.size ∧ w.heap.size ≠ S); omega) cw4_0_3; have zx_0 : w.heap.size < wx.heap.size := World.block_lt_of_cell? _ _ cx_0_0; have cx_1_0 : wx.cell? ⟨S, 2, none⟩ = some (.slice ad0 L.length cp0) := cell_kx gx (by show ¬ (W.heap.size ≤ S ∧ S ≠ w.heap.size ∧ S ≠ S); omega) cw4_1_0; have zx_1 : S < wx.heap.size := World.block_lt_of_cell? _ _ cx_1_0; clear gx; all_goals (apply Oe.pAt_of_quiet; intro K hK; go_big_quiet_op; first | exact hK _ rfl | (apply Exists.intro; refine ⟨fun _ => ?_, ?_⟩; (· fail); exact hK _ rfl))); try simp only [Act.put, List.setIfInBounds_toArray, List.set_cons_zero, List.set_cons_succ]))
        refine Oe.wpO_call (by simp only [List.getElem?_toArray, List.getElem?_cons_succ, List.getElem?_cons_zero] <;> rfl) rfl ?_
        intro QS hQS
        go_wp2_with fail
        first | (apply Exists.intro; refine ⟨?_, Kx.of_gr (by go_grown), ?_⟩; (· simp only [Act.put, List.setIfInBounds_toArray, List.set_cons_zero, List.set_cons_succ]; rfl)) | (refine ⟨Kx.of_gr (by go_grown), ?_⟩)
        generalize hhw5 : (w4.alloc (.cells #[.int .i64 kd, .int .i64 id, .int .i64 kk, .slice ad n cap] 50)) = w5
        have hw5 : Gr w4 w5 := by subst hhw5; go_grown
        have cw5_0_0 : w5.cell? ⟨w.heap.size, 0, none⟩ = some (.int .i64 kd) := by subst hhw5; go_simp
        have cw5_0_1 : w5.cell? ⟨w.heap.size, 1, none⟩ = some (.int .i64 id) := by subst hhw5; go_simp
        have cw5_0_2 : w5.cell? ⟨w.heap.size, 2, none⟩ = some (.int .i64 kk) := by subst hhw5; go_simp
        have cw5_0_3 : w5.cell? ⟨w.heap.size, 3, none⟩ = some (.slice ad n cap) := by subst hhw5; go_simp
        have zw5_0 : w.heap.size < w5.heap.size := World.block_lt_of_cell? _ _ cw5_0_0
        have cw5_1_0 : w5.cell? ⟨S, 2, none⟩ = some (.slice ad0 L.length cp0) := by subst hhw5; go_simp
        have zw5_1 : S < w5.heap.size := World.block_lt_of_cell? _ _ cw5_1_0
        have gw5 : Gr W w5 := Gr.trans (by have gg := gw4; have gs := gg.size; go_grown) hw5
        have sw5 := hw5.size
        have HW5 : Hid (Gr w4 w5 ∧ ∀ j u, [Value.int .i64 kd, .int .i64 id, .int .i64 kk, .slice ad n cap][j]? = some u → w5.cell? ((⟨w4.heap.size, 0, none⟩ : Addr).add j) = some u) := Lib.hid (by subst hhw5; exact ⟨(Below.refl _ _).alloc (Nat.le_refl _) _, cells_newT _ _ _ _ rfl⟩)
        clear hhw5 gw4 zw4_0 cw4_0_0 cw4_0_1 cw4_0_2 cw4_0_3 zw4_1 cw4_1_0
        try simp only [Act.put, List.setIfInBounds_toArray, List.set_cons_zero, List.set_cons_succ]
        repeat (first | (refine Oe.wpO_skip (by simp only [List.getElem?_toArray, List.getElem?_cons_succ, List.getElem?_cons_zero] <;> rfl) rfl ?_; simp only [Act.put, List.setIfInBounds_toArray, List.set_cons_zero, List.set_cons_succ]) | (refine Oe.wpO_pure (by simp only [List.getElem?_toArray, List.getElem?_cons_succ, List.getElem?_cons_zero] <;> rfl) rfl ?_; apply Exists.intro; refine ⟨?_, ?_⟩; (· intro wx gx; have cx_0_0 : wx.cell? ⟨w.heap.size, 0, none⟩ = some (.int .i64 kd) := cell_kx gx (by show ¬ (W.heap.size ≤ w.heap.size ∧ w.heap.size ≠ w.heap.size ∧ w.heap.size ≠ S); omega) cw5_0_0; have cx_0_1 : wx.cell? ⟨w.heap.size, 1, none⟩ = some (.int .i64 id) := cell_kx gx (by show ¬ (W.heap.size ≤ w.heap.size ∧ w.heap.size ≠ w.heap.size ∧ w.heap.size ≠ S); omega) cw5_0_1; have cx_0_2 : wx.cell? ⟨w.heap.size, 2, none⟩ = some (.int .i64 kk) := cell_kx gx (by show ¬ (W.heap.size ≤ w.heap.size ∧ w.heap.size ≠ w.heap.size ∧ w.heap.size ≠ S); omega) cw5_0_2; have cx_0_3 : wx.cell? ⟨w.heap.size, 3, none⟩ = some (.slice ad n cap) := cell_kx gx (by show ¬ (W.heap.size ≤ w.heap.size ∧ w.heap.size ≠ w.heap.size ∧ w.heap.size ≠ S); omega) cw5_0_3; have zx_0 : w.heap.size < wx.heap.size := World.block_lt_of_cell? _ _ cx_0_0; have cx_1_0 : wx.cell? ⟨S, 2, none⟩ = some (.slice ad0 L.length cp0) := cell_kx gx (by show ¬ (W.heap.size ≤ S ∧ S ≠ w.heap.size ∧ S ≠ S); omega) cw5_1_0; have zx_1 : S < wx.heap.size := World.block_lt_of_cell? _ _ cx_1_0; clear gx; all_goals (apply Oe.pAt_of_quiet; intro K hK; go_big_quiet_op; first | exact hK _ rfl | (apply Exists.intro; refine ⟨fun _ => ?_, ?_⟩; (· fail); exact hK _ rfl))); try simp only [Act.put, List.setIfInBounds_toArray, List.set_cons_zero, List.set_cons_succ]))
        refine Oe.wpO_call (by simp only [List.getElem?_toArray, List.getElem?_cons_succ, List.getElem?_cons_zero] <;> rfl) rfl ?_
        intro QS hQS
        refine (wpList_append_own2 _ rfl (.tmp 41) (.tmp 43) 36 rfl W.heap.size 50 i0 (.agg #[.int .i64 0, .int .i64 0, .int .i64 0, .slice none 0 0]) 4 48 Tryz.underlying36 HI.out.1 HI.out.2.1 HI.out.2.2.1 HI.out.2.2.2 rfl (by decide) (.slice ad0 L.length cp0) L.length (chCs L) rfl (rowOwn_gr HR3.out.own (Gr.trans hw4 HW5.out.1)) ⟨w4.heap.size, 0, none⟩ 1 1 [.int .i64 kd, .int .i64 id, .int .i64 kk, .slice ad n cap] rfl rfl HW5.out.2 (by intro u hu; simp only [List.mem_cons, List.not_mem_nil, or_false] at hu; rcases hu with rfl | rfl | rfl | rfl <;> rfl) (by unfold maxLen; omega) (by omega) (by omega) ?_)
        intro x6 w6 o6 g6
        have hhw6 : Kx (fun k => W.heap.size ≤ k ∧ k ≠ w.heap.size ∧ k ≠ S) w5 w6 := ((kx_grown g6).mono HGK.out)
        refine hQS _ _ ⟨_, rfl, hhw6, ?_⟩
        clear hQS QS
        have cw6_0_0 : w6.cell? ⟨w.heap.size, 0, none⟩ = some (.int .i64 kd) := cell_kx hhw6 (by show ¬ (W.heap.size ≤ w.heap.size ∧ w.heap.size ≠ w.heap.size ∧ w.heap.size ≠ S); omega) (by go_simp)
        have cw6_0_1 : w6.cell? ⟨w.heap.size, 1, none⟩ = some (.int .i64 id) := cell_kx hhw6 (by show ¬ (W.heap.size ≤ w.heap.size ∧ w.heap.size ≠ w.heap.size ∧ w.heap.size ≠ S); omega) (by go_simp)
        have cw6_0_2 : w6.cell? ⟨w.heap.size, 2, none⟩ = some (.int .i64 kk) := cell_kx hhw6 (by show ¬ (W.heap.size ≤ w.heap.size ∧ w.heap.size ≠ w.heap.size ∧ w.heap.size ≠ S); omega) (by go_simp)
        have cw6_0_3 : w6.cell? ⟨w.heap.size, 3, none⟩ = some (.slice ad n cap) := cell_kx hhw6 (by show ¬ (W.heap.size ≤ w.heap.size ∧ w.heap.size ≠ w.heap.size ∧ w.heap.size ≠ S); omega) (by go_simp)
        have zw6_0 : w.heap.size < w6.heap.size := World.block_lt_of_cell? _ _ cw6_0_0
        have cw6_1_0 : w6.cell? ⟨S, 2, none⟩ = some (.slice ad0 L.length cp0) := cell_kx hhw6 (by show ¬ (W.heap.size ≤ S ∧ S ≠ w.heap.size ∧ S ≠ S); omega) (by go_simp)
        have zw6_1 : S < w6.heap.size := World.block_lt_of_cell? _ _ cw6_1_0
        have gw6 : Gr W w6 := Kx.gr hhw6 gw5 (fun k hk => by have hk2 : W.heap.size ≤ k ∧ k ≠ w.heap.size ∧ k ≠ S := hk; omega)
        have sw6 := hhw6.size
        clear gw5 zw5_0 cw5_0_0 cw5_0_1 cw5_0_2 cw5_0_3 zw5_1 cw5_1_0
        clear hhw6
        try simp only [Act.put, List.setIfInBounds_toArray, List.set_cons_zero, List.set_cons_succ]
        repeat (first | (refine Oe.wpO_skip (by simp only [List.getElem?_toArray, List.getElem?_cons_succ, List.getElem?_cons_zero] <;> rfl) rfl ?_; simp only [Act.put, List.setIfInBounds_toArray, List.set_cons_zero, List.set_cons_succ]) | (refine Oe.wpO_pure (by simp only [List.getElem?_toArray, List.getElem?_cons_succ, List.getElem?_cons_zero] <;> rfl) rfl ?_; apply Exists.intro; refine ⟨?_, ?_⟩; (· intro wx gx; have cx_0_0 : wx.cell? ⟨w.heap.size, 0, none⟩ = some (.int .i64 kd) := cell_kx gx (by show ¬ (W.heap.size ≤ w.heap.size ∧ w.heap.size ≠ w.heap.size ∧ w.heap.size ≠ S); omega) cw6_0_0; have cx_0_1 : wx.cell? ⟨w.heap.size, 1, none⟩ = some (.int .i64 id) := cell_kx gx (by show ¬ (W.heap.size ≤ w.heap.size ∧ w.heap.size ≠ w.heap.size ∧ w.heap.size ≠ S); omega) cw6_0_1; have cx_0_2 : wx.cell? ⟨w.heap.size, 2, none⟩ = some (.int .i64 kk) := cell_kx gx (by show ¬ (W.heap.size ≤ w.heap.size ∧ w.heap.size ≠ w.heap.size ∧ w.heap.size ≠ S); omega) cw6_0_2; have cx_0_3 : wx.cell? ⟨w.heap.size, 3, none⟩ = some (.slice ad n cap) := cell_kx gx (by show ¬ (W.heap.size ≤ w.heap.size ∧ w.heap.size ≠ w.heap.size ∧ w.heap.size ≠ S); omega) cw6_0_3; have zx_0 : w.heap.size < wx.heap.size := World.block_lt_of_cell? _ _ cx_0_0; have cx_1_0 : wx.cell? ⟨S, 2, none⟩ = some (.slice ad0 L.length cp0) := cell_kx gx (by show ¬ (W.heap.size ≤ S ∧ S ≠ w.heap.size ∧ S ≠ S); omega) cw6_1_0; have zx_1 : S < wx.heap.size := World.block_lt_of_cell? _ _ cx_1_0; clear gx; all_goals (apply Oe.pAt_of_quiet; intro K hK; go_big_quiet_op; first | exact hK _ rfl | (apply Exists.intro; refine ⟨fun _ => ?_, ?_⟩; (· fail); exact hK _ rfl))); try simp only [Act.put, List.setIfInBounds_toArray, List.set_cons_zero, List.set_cons_succ]))
        obtain ⟨ad6, c6, rfl, -, -⟩ := own_any o6
        have K36 : Kx (fun k => (Value.slice ad0 L.length cp0).ownBlock = some k) w3 w6 := (Kx.of_gr (Gr.trans hw4 HW5.out.1)).trans (kx_grown g6)
        have hh6 := heap_kx K36 (fun e => (HGK.out _ e).2.2 rfl) HH3.out
        have f6 : w6.frozen? ⟨S, 2, none⟩ = false := Hm.frozen_of_heap hh6 2
        have hr6 := ChRow.more HR3.out (Gr.trans hw4 HW5.out.1) (x := ⟨kd, id, kk, .slice ad n cap, n, X, Y⟩) o6 g6 (ptsF_gr HP3.out (Gr.trans hw4 HW5.out.1)) HZ.out HN.out
        have HO6 := Lib.hid (And.intro K36 (And.intro hh6 hr6))
        clear K36 hh6 hr6 o6 g6
        refine Oe.wpO_nil (hKQ _ _ ?_)
        clear hKQ KQ
        go_wp2_with fail
        go_ret
        obtain ⟨K36, hh6, hr6⟩ := HO6.out
        have KS : Kx (fun i => i = S) w6 (w6.setCell ⟨S, 2, none⟩ (.slice ad6 (L.length + 1) c6)) := (Kx.refl (S := fun i => i = S) w6).setCell (p := ⟨S, 2, none⟩) rfl _
        have FF := HF3.out.put (cv' := .slice ad6 (L.length + 1) c6) (op' := true) (L' := L ++ [⟨kd, id, kk, .slice ad n cap, n, X, Y⟩]) ((K36.mono (fun i hi => Or.inl hi)).trans (KS.mono (fun i hi => Or.inr hi))) (fun i hi => by
          rcases hi with hi | hi
          · obtain ⟨h1, cur, h2⟩ := own_tyC HR3.out.own hi
            exact Or.inr ⟨h1, Or.inr ⟨_, _, h2⟩⟩
          · exact Or.inl hi) (Hm.heap_set_same hh6) (hr6.ty KS (fun i hi => by subst hi; exact ⟨noTy_of hh6 (by decide), noTy_of hh6 (by decide)⟩))
        rw [List.map_append, HR.out.2.1] at FF
        refine ⟨_, M3, rfl, Or.inl ⟨rfl, HC2.out⟩, ?_⟩
        rw [show doS true G (σ j) ⟨kd, id, ⟨kk, n, X, Y⟩⟩ = apS (σ j) kd id kk n X Y from if_pos HC2.out, show doG true G (σ j) ⟨kd, id, ⟨kk, n, X, Y⟩⟩ = G ++ [⟨kd, id, ⟨kk, n, X, Y⟩⟩] from if_pos HC2.out]
        exact FF
      · have HE0 : Hid (EAt w3 (apN (σ j) kd id kk n X Y) (d + 1) (.iface 108 (.pointer (some ⟨B', 0, none⟩)))) := Lib.hid ⟨B', x, rfl, h6, h7⟩
        have HE1 := Lib.hid (And.intro k1 k15)
        clear h4 h5 h6 h7 k1 k15
        have AN := Lib.hid (fun w' (g : Gr w3 w') => md_fNewW stageS id HE1.out w' (eAt_gr HE0.out g))
        go_wp2_with fail
        go_at_call 57
        refine (AN.out _ (by go_grown)).mono ?_
        rintro e w4 ⟨F', rfl, hf, g4⟩
        have HE := Lib.hid (And.intro hf g4)
        clear hf g4
        go_wp2_with fail
        go_ret
        have hne : doC true G (σ j) ⟨kd, id, ⟨kk, n, X, Y⟩⟩ ≠ 0 := by rw [HC.out]; have := HE1.out.1; omega
        have eS : apS (σ j) kd id kk n X Y = σ j := if_pos (by have := HE1.out.1; omega)
        refine ⟨_, M3, rfl, by rw [HC.out]; exact HE.out.1, ?_⟩
        rw [show doS true G (σ j) ⟨kd, id, ⟨kk, n, X, Y⟩⟩ = σ j from if_neg hne, show doG true G (σ j) ⟨kd, id, ⟨kk, n, X, Y⟩⟩ = G from if_neg hne]
        have := HF3.out.to HE.out.2
        rw [eS] at this
        exact this
end
end Go.Proofs.YtpomllpplpalkaaGreatDoor
/- stage: Changes -/
namespace Go.Proofs.YtpomllpplpalkaaGreatDoor
set_option linter.unusedVariables false
set_option linter.unusedSimpArgs false
open Go.ChangeShapes Go.WideShapes Go.ChangeAt Go.RowKit Go.Maps

theorem chRow_at {w : World} {base n cap : Nat} {ad : Option Addr} {L : List MChg} (h : ChRow w base (.slice ad n cap) L) : ∃ D, ∀ i, i < L.length → ad = some ⟨D, 0, none⟩ ∧ w.cell? ⟨D, i * 4, none⟩ = some (.int .i64 (L.getD i MChg.nul).kd) ∧ w.cell? ⟨D, i * 4 + 1, none⟩ = some (.int .i64 (L.getD i MChg.nul).id) ∧ w.cell? ⟨D, i * 4 + 2, none⟩ = some (.int .i64 (L.getD i MChg.nul).k) ∧ w.cell? ⟨D, i * 4 + 3, none⟩ = some (L.getD i MChg.nul).v ∧ PtsF w base (L.getD i MChg.nul).v (L.getD i MChg.nul).n (L.getD i MChg.nul).X (L.getD i MChg.nul).Y ∧ i64R (L.getD i MChg.nul).id ∧ (L.getD i MChg.nul).n ≤ 1000 := by
  rcases h.own.2 with ⟨e, e2⟩ | ⟨g, cp, cur, e, hb, hg, hn', hc, hs, ht⟩
  · have hl := chCs_len L
    exact ⟨0, fun i hi => absurd hi (by first | omega | (have : L.length = 0 := e2; omega) | (rw [e2] at hl; simp at hl; rw [hl] at hi; simp at hi))⟩
  · simp only [Value.slice.injEq] at e
    obtain ⟨rfl, rfl, rfl⟩ := e
    refine ⟨g, fun i hi => ?_⟩
    obtain ⟨a0, a1, a2, a3⟩ := chCs_get L i hi
    have hm : L.getD i MChg.nul ∈ L := by rw [List.getD_eq_getElem?_getD, List.getElem?_eq_getElem hi]; exact List.getElem_mem hi
    have hp := h.pts _ hm
    refine ⟨rfl, ?_, ?_, ?_, ?_, hp.1, hp.2.1, hp.2.2⟩
    · rw [h.own.cellAt _ (by omega)]; exact a0
    · rw [h.own.cellAt _ (by omega)]; exact a1
    · rw [h.own.cellAt _ (by omega)]; exact a2
    · rw [h.own.cellAt _ (by omega)]; exact a3
theorem ptsF_set {a : World} {base n : Nat} {v x : Value} {X Y : Nat → Int} {p : Addr} (h : PtsF a base v n X Y) (hp : p.block < base) : PtsF (a.setCell p x) base v n X Y := by
  obtain ⟨hp', hb⟩ := h
  rcases Nat.eq_zero_or_pos n with e | hn
  · subst e
    obtain ⟨ad, cap, B, off, e, h1, h2, h3, h4⟩ := hp'
    exact ⟨⟨ad, cap, B, off, e, h1, h2, h3, fun q hq => absurd hq (Nat.not_lt_zero _)⟩, fun h => absurd h (Nat.lt_irrefl _)⟩
  · obtain ⟨B, c, rfl, hf, hB⟩ := hb hn
    have K : Kx (fun i => i = p.block) a (a.setCell p x) := (Kx.refl (S := fun i => i = p.block) a).setCell (p := p) rfl _
    exact ⟨pts_kxW hn hp' K (by show ¬ B = p.block; omega), fun _ => ⟨B, c, rfl, fr2_kx hf K (by show ¬ B = p.block; omega), hB⟩⟩
theorem take_sem {L : List MChg} {i : Nat} (hi : i < L.length) : (L.take (i + 1)).map chSem = (L.take i).map chSem ++ [chSem (L.getD i MChg.nul)] := by
  rw [List.take_add_one, List.getElem?_eq_getElem hi, List.map_append, List.getD_eq_getElem?_getD, List.getElem?_eq_getElem hi]
  rfl
section
variable {W w : World} {N k : Nat} {Q : Nat → Nat} {M : Nat → Option Nat} {σ : Nat → Int → Option MO} {S b j : Nat} {op : Bool} {G : List CS}
def ChgsTo (w : World) (G : List CS) (e : Ending) (w' : World) : Prop := ∃ v L, e = .returned v ∧ ChRow w' w.heap.size v L ∧ L.map chSem = G ∧ Gr w w'
set_option maxHeartbeats 4000000 in
set_option maxRecDepth 100000 in
theorem st_Changes (F : StF W w N k Q M σ S b j op G) (hG : G.length ≤ 1000) : Calls Tryz.prog 17 #[.pointer (some ⟨S, 0, none⟩)] w fun e w' => ChgsTo w G e w' := by
  obtain ⟨i0, hi0, hz0, hz1, hz2⟩ := info_parts (P := Tryz.prog) (e := 50) (z := .agg #[.int .i64 0, .int .i64 0, .int .i64 0, .slice none 0 0]) (size := 4) (bytes := 48) (by kernel_rfl)
  have HI := Lib.hid (And.intro hi0 (And.intro hz0 (And.intro hz1 hz2)))
  clear hi0 hz0 hz1 hz2
  obtain ⟨cv, L, hh, hr, hL⟩ := F.row
  have hLG : L.length = G.length := by rw [← hL, List.length_map]
  have c2 : w.cell? ⟨S, 2, none⟩ = some cv := Hm.cell_of_heap hh 2
  have zS := World.block_lt_of_cell? _ _ c2
  obtain ⟨ad0, cp0, rfl, hcp, hcp2⟩ := own_any hr.own
  obtain ⟨D, hD⟩ := chRow_at hr
  have HD := Lib.hid hD
  have HL := Lib.hid hL
  have hLi : (L.length : Int) ≤ 1000 := by omega
  have HO0 := Lib.hid (ChRow.mk (L := []) (World.ownsRow_lit (base := w.heap.size) (e := 50) (size := 4) w #[] 0 (Nat.le_refl _) (by decide) (by simp)) (fun c hc => by cases hc))
  clear F hh hr hL hD
  go_enter Tryz.func17, Tryz.ntmps17
  go_wp2_with fail
  have HG0 : Hid (Gr w (w.alloc (.cells #[] 50))) := Lib.hid ((Below.refl _ _).alloc (Nat.le_refl _) _)
  go_loopg [3, 15] L.length (fun m a x wr => ∃ (i : Nat) (Lc : List MChg), x = .int .i64 i ∧ i ≤ L.length ∧ m = L.length - i ∧ Hid (ChRow wr w.heap.size a Lc ∧ Lc.map chSem = (L.take i).map chSem) ∧ Hid (Gr w wr))
  case atStart => exact ⟨0, [], rfl, Nat.zero_le _, by omega, Lib.hid ⟨HO0.out, rfl⟩, HG0⟩
  case round =>
    obtain ⟨i, Lc, rfl, hi, hk, HC, HG⟩ := hrel
    by_cases hlt : i < L.length
    · have ti : decide ((i : Int) < (L.length : Int)) = true := decide_eq_true (by omega)
      have ti2 : decide (i < L.length) = true := decide_eq_true hlt
      have ti3 : (i : Int) < (L.length : Int) := by omega
      have ti4 : (i : Int) < (cp0 : Int) := by omega
      have hmm : L.length - (i + 1) < gk := by omega
      have hlc : Lc.length = i := by
        have := congrArg List.length HC.out.2
        rw [List.length_map, List.length_map, List.length_take] at this
        omega
      have hs := take_sem hlt
      obtain ⟨rfl, q0, q1, q2, q3, q4, q5, q6⟩ := HD.out i hlt
      rcases ec : L.getD i MChg.nul with ⟨kd, id, kk, vv, m, X, Y⟩
      rw [ec] at q0 q1 q2 q3 q4 q5 q6 hs
      simp only at q0 q1 q2 q3 q4 q5 q6 hs
      have HS := Lib.hid (And.intro hs (And.intro q4 (And.intro q5 q6)))
      have p0 := cell_gr HG.out q0
      have p1 := cell_gr HG.out q1
      have p2 := cell_gr HG.out q2
      have p3 := cell_gr HG.out q3
      have zD := World.block_lt_of_cell? _ _ p0
      obtain ⟨pad, pcap, _, _, rfl, _⟩ := q4.1
      have AC := Lib.hid (fun w' (g : Gr wr w') => c_rCloneA (k := kk) (show m ≤ 1000000 by omega) w' (pts_gr q4.1 (Gr.trans HG.out g)))
      have hwr := HG.out.size
      clear q0 q1 q2 q3 q4 q5 hs ec
      go_wp2_with fail
      go_at_call 61
      refine (AC.out _ (by go_grown)).mono ?_
      rintro e w2 ⟨u, rfl, hp, g2⟩
      have b0 : w2.cell? ⟨wr.heap.size, 0, none⟩ = some (.int .i64 kd) := cell_gr g2 (by go_simp)
      have b1 : w2.cell? ⟨wr.heap.size, 1, none⟩ = some (.int .i64 id) := cell_gr g2 (by go_simp)
      have b2 : w2.cell? ⟨wr.heap.size, 2, none⟩ = some (.int .i64 kk) := cell_gr g2 (by go_simp)
      have b3 : w2.cell? ⟨wr.heap.size, 3, none⟩ = some (.slice pad m pcap) := cell_gr g2 (by go_simp)
      have f2 : w2.frozen? ⟨wr.heap.size, 2, none⟩ = false := frozen_gr (v := .int .i64 kk) g2 (by go_simp) (by go_simp)
      have f3 : w2.frozen? ⟨wr.heap.size, 3, none⟩ = false := frozen_gr (v := .slice pad m pcap) g2 (by go_simp) (by go_simp)
      have zb := World.block_lt_of_cell? _ _ b0
      have G2 : Gr wr w2 := Gr.trans (by go_grown) g2
      have hp2 : PtsF w2 (wr.heap.size + 1) u m X Y := ptsF_le hp (by simp)
      have Gb : Gr wr (((w2.setCell ⟨wr.heap.size, 2, none⟩ (.int .i64 kk)).setCell ⟨wr.heap.size, 3, none⟩ u).alloc (.cells #[.int .i64 kd, .int .i64 id, .int .i64 kk, u] 50)) := ((G2.setCell (p := ⟨wr.heap.size, 2, none⟩) (Nat.le_refl _) _).setCell (p := ⟨wr.heap.size, 3, none⟩) (Nat.le_refl _) _).alloc (by simpa using G2.size) _
      have Pb : PtsF (((w2.setCell ⟨wr.heap.size, 2, none⟩ (.int .i64 kk)).setCell ⟨wr.heap.size, 3, none⟩ u).alloc (.cells #[.int .i64 kd, .int .i64 id, .int .i64 kk, u] 50)) (wr.heap.size + 1) u m X Y := ptsF_gr (ptsF_set (ptsF_set hp2 (Nat.lt_succ_self _)) (Nat.lt_succ_self _)) ((Below.refl _ _).alloc (Nat.le_refl _) _)
      obtain ⟨uad, ucap, _, _, rfl, _⟩ := hp.1
      have HGb := Lib.hid (And.intro Gb Pb)
      have hs2 : w.heap.size ≤ w2.heap.size := Nat.le_trans hwr G2.size
      clear p0 p1 p2 p3 zD Gb Pb hp hp2 G2 g2
      go_wp2_with (at_builtin; go_loud ((refine wpList_append_own2 _ rfl (.tmp 25) (.tmp 27) 36 rfl w.heap.size 50 i0 (.agg #[.int .i64 0, .int .i64 0, .int .i64 0, .slice none 0 0]) 4 48 Tryz.underlying36 HI.out.1 HI.out.2.1 HI.out.2.2.1 HI.out.2.2.2 rfl (by decide) u3 Lc.length (chCs Lc) rfl (rowOwn_gr HC.out.1.own HGb.out.1) ⟨w2.heap.size, 0, none⟩ 1 1 [.int .i64 kd, .int .i64 id, .int .i64 kk, .slice uad m ucap] rfl rfl (by first | exact cells_newT _ _ _ _ rfl | (have h := cells_newT ((w2.setCell ⟨wr.heap.size, 2, none⟩ (.int .i64 kk)).setCell ⟨wr.heap.size, 3, none⟩ (.slice uad m ucap)) #[.int .i64 kd, .int .i64 id, .int .i64 kk, .slice uad m ucap] 50 _ rfl; simpa using h)) (by intro u hu; simp only [List.mem_cons, List.not_mem_nil, or_false] at hu; rcases hu with rfl | rfl | rfl | rfl <;> rfl) (by unfold maxLen; omega) (by omega) (by simp; omega) ?_); intro x5 w5 o5 g5; (have HO5 := Lib.hid (And.intro o5 g5)); clear o5 g5))
      go_roundg (L.length - (i + 1))
      case measure => omega
      case rel =>
        refine ⟨i + 1, Lc ++ [⟨kd, id, kk, .slice uad m ucap, m, X, Y⟩], by go_num, by omega, rfl, Lib.hid ⟨ChRow.more (x := ⟨kd, id, kk, .slice uad m ucap, m, X, Y⟩) HC.out.1 HGb.out.1 HO5.out.1 HO5.out.2 (ptsF_le HGb.out.2 (by omega)) HS.out.2.2.1 HS.out.2.2.2, ?_⟩, Lib.hid (HO5.out.2.gr (Gr.trans HG.out HGb.out.1) (fun k hk => (World.ownsRow.lt HC.out.1.own k hk).1))⟩
        rw [HS.out.1, List.map_append, HC.out.2]
        rfl
    · obtain rfl : i = L.length := by omega
      have ti : decide ((L.length : Int) < (L.length : Int)) = false := decide_eq_false (by omega)
      have ti2 : decide (L.length < L.length) = false := decide_eq_false (by omega)
      clear hk
      go_wp2_with fail
      go_ret
      exact ⟨_, Lc, rfl, HC.out.1, by rw [HC.out.2, List.take_length]; exact HL.out, HG.out⟩
end
end Go.Proofs.YtpomllpplpalkaaGreatDoor
