/- HeapPlays: the walk -/
import Derived.Test.YtldlpbfncgcimaaHw
namespace Go.Proofs.Ytldlpbfncgcimaa
set_option linter.unusedVariables false
open Go.ChangeShapes Go.WideShapes Go.ChangeAt Go.RowKit

theorem playAt_gr {B pa pr i : Nat} {W a b : World} (h : PlayAt B pa pr i W a) (g : Gr a b) : PlayAt B pa pr i W b := by
  obtain ⟨v, L, m, u, R, k1, k2, k3, k4, k5, k6, k7, k8⟩ := h
  exact ⟨v, L, m, u, R, heapAt_gr k1 g, refAt_gr k2 g, k3, k4, k5, k6, Gr.trans k7 g, k8⟩
set_option maxHeartbeats 8000000 in
set_option maxRecDepth 100000 in
theorem plays_core (ad : Option Addr) (b off n cap : Nat) (K : Nat → Int) (F : Nat → En) (hA : 0 < n → ad = some ⟨b, off, none⟩) (hn : n ≤ 200) (hc : n ≤ cap) (W : World) (hF : ∀ k, k < n → (F k).ok ∧ W.cell? ⟨b, off + k * 7, none⟩ = some (.int .i64 (K k)) ∧ EntAt W b (off + k * 7 + 1) (F k)) :
    Calls Try.prog 5 #[.slice ad n cap] W fun e w' => e = .returned (.bool true) ∧ Gr W w' := by
  have HF := Lib.hid hF
  have HA := Lib.hid hA
  have t0 : decide ((200 : Int) < (n : Int)) = false := decide_eq_false (by omega)
  have t00 : decide (200 < n) = false := decide_eq_false (by omega)
  have AN := Lib.hid (fun w => c_hNew w)
  clear hF hA
  go_enter Try.func5, Try.ntmps5
  go_wp2_with fail
  go_at_call 21
  (with_reducible refine (AN.out _).mono ?_)
  rintro e w1 ⟨rfl, hA1, g1⟩
  have hpl := (heapAt_lt hA1).1
  have HA1 := Lib.hid hA1
  have G1 := Lib.hid g1
  clear hA1 g1
  go_wp2_with fail
  obtain ⟨w2, hw2⟩ : ∃ w2, w1.alloc (.cells #[.slice none 0 0] 40) = w2 := ⟨_, rfl⟩
  rw [hw2]
  have g2 : Gr w1 w2 := by subst hw2; exact (Below.refl _ _).alloc (Nat.le_refl _) _
  have hR2 : RefAt w2 W.heap.size w1.heap.size (.slice none 0 0) [] := by subst hw2; exact ⟨G1.out.size, heap_alloc_new w1 _, World.ownsRow_nil _ _ _ _, by simp [Value.ownBlock]⟩
  have HP2 := Lib.hid (show PlayAt W.heap.size W.heap.size w1.heap.size 0 W w2 from ⟨_, [], 0, _, [], heapAt_gr HA1.out g2, hR2, Hp.hp_nil, both_nil, ⟨by omega, by simp [Value.ownBlock], by simp [Value.ownBlock], (fun k h => by cases h)⟩, (fun y h => by cases h), Gr.trans G1.out g2, Nat.le_refl _, Nat.le_refl _⟩)
  have hpr : W.heap.size ≤ w1.heap.size := G1.out.size
  clear hR2 g2 hw2
  go_loopg [5] n (fun k x wr => ∃ i : Nat, x = .int .i64 i ∧ i ≤ n ∧ k = n - i ∧ PlayAt W.heap.size W.heap.size w1.heap.size i W wr)
  case atStart => exact ⟨0, rfl, Nat.zero_le _, by omega, HP2.out⟩
  case round =>
    obtain ⟨i, rfl, hi, hk, hPl⟩ := hrel
    by_cases h : i < n
    · have ti : decide ((i : Int) < (n : Int)) = true := decide_eq_true (by omega)
      have ti2 : decide (i < n) = true := decide_eq_true h
      have ti3 : (i : Int) < (n : Int) := by omega
      obtain rfl := HA.out (by omega)
      obtain ⟨hfok, hkind, hent⟩ := HF.out i h
      obtain ⟨f, ef⟩ : ∃ f, f = F i := ⟨_, rfl⟩
      obtain ⟨kd, ekd⟩ : ∃ kd, kd = K i := ⟨_, rfl⟩
      rw [← ef] at hfok hent
      rw [← ekd] at hkind
      have HFO := Lib.hid (And.intro hfok hent)
      have hgw : Gr W wr := by obtain ⟨v, L, m, u, R, -, -, -, -, -, -, g, -⟩ := hPl; exact g
      have kc := cell_gr hgw hkind
      have HPl := Lib.hid hPl
      have hm : n - (i + 1) < gk := by omega
      have hi1 : i + 1 ≤ n := h
      clear hfok hent ef ekd hPl hkind hk
      go_upto_if 34 with fail
      go_cut [6, 7, 8, 9] from 34 to 75 (fun p q r s wx => PlayAt W.heap.size W.heap.size w1.heap.size (i + 1) W wx)
      case first =>
        obtain ⟨v, L, m, u, R, k1, k2, k3, k4, k5, k6, k7, k8, k9⟩ := HPl.out
        have hRok := both_ok k4 k6
        have hlen := k4.len
        have hsz := k7.size
        by_cases hk1 : kd = 1
        · have hb : (kd == 1) = true := by simp [hk1]
          obtain ⟨i0, hi0, hz0, hz1, hz2⟩ := info_parts (P := Try.prog) (e := 46) (z := .agg #[.int .i64 0, .int .u64 0, .int .u64 0, .int .u64 0, .bool false, .int .i64 0]) (size := 6) (bytes := 48) (by kernel_rfl)
          have HI := Lib.hid hi0
          have HZ0 := Lib.hid hz0
          have HZ1 := Lib.hid hz1
          have HZ2 := Lib.hid hz2
          have A1 := Lib.hid (fun w => c_made15 f.id f.hi f.lo f.den f.item f.node w)
          have A2 := Lib.hid (fun w (g : Gr wr w) => c_Push L f W.heap.size W.heap.size m v (by omega) (by omega) w (Nat.le_trans hsz g.size) (heapAt_gr k1 g) k6 HFO.out.1 k3)
          obtain ⟨a0, a1, a2, a3, a4, a5⟩ := entAt_gr HFO.out.2 k7
          have HK := Lib.hid (And.intro k1 (And.intro k2 (And.intro k3 (And.intro k4 (And.intro k5 (And.intro k6 (And.intro k7 (And.intro k8 (And.intro k9 (And.intro hRok hlen))))))))))
          clear k1 k2 k3 k4 k5 k6 k7 k8 k9 hRok hlen hk1 hi0 hz0 hz1 hz2 kc
          go_wp2_with fail
          go_at_call 23
          (with_reducible refine (A1.out _).mono ?_)
          rintro e w3 ⟨rfl, g3⟩
          have G3 := Lib.hid g3
          clear g3 a0 a1 a2 a3 a4 a5
          go_wp2_with fail
          go_at_call 22
          (with_reducible refine (A2.out _ G3.out).mono ?_)
          rintro e w4 ⟨rfl, v', M, m1, m2, m3, m4⟩
          obtain ⟨k1, k2, k3, k4, k5, k6, k7, k8, k9, hRok, hlen⟩ := HK.out
          have hR4 := twoR (refAt_gr k2 G3.out) k5 m2
          have G4 : Gr W w4 := m2.gr (Gr.trans k7 G3.out) (Nat.le_refl _) (fun k h => ((heapAt_lt k1).2 k h).1)
          have hB := k4.push m3
          have hMok : ∀ y ∈ M, y.e.ok := fun y hy => by
            rcases List.mem_append.1 (m3.mem_iff.1 hy) with h | h
            · exact k6 y h
            · simp at h; subst h; exact HFO.out.1
          have hMl : M.length ≤ i + 1 := by have := m3.length_eq; simp at this; omega
          obtain ⟨a0, a1, a2, a3, a4, a5⟩ := entAt_gr HFO.out.2 G4
          obtain ⟨ad3, g3', cap3, rfl, hc1, hc2, -⟩ := refAt_form hR4.1
          have p4 := (one_cell hR4.1.2.1).1
          have zpr4 := World.block_lt_of_cell? _ _ p4
          obtain ⟨l, el⟩ : ∃ l, l = R.length := ⟨_, rfl⟩
          have OW := Lib.hid hR4.1.2.2.1
          have NP := Lib.hid (fun k (h : Value.ownBlock (.slice ad3 R.length cap3) = some k) (e : k = w1.heap.size) => hR4.1.2.2.2 (by rw [h, e]))
          have PB := Lib.hid (fun o => ((World.grownBy_alloc w4 o none).block _ zpr4 (by simp)).trans hR4.1.2.1)
          have CN := Lib.hid (fun w => cells_new w #[.int .i64 f.id, .int .u64 f.hi, .int .u64 f.lo, .int .u64 f.den, .bool f.item, .int .i64 f.node] 46 f.cs rfl)
          have ON := Lib.hid (en_one [f])
          have hl9 : R.length ≤ 1000 := by omega
          have hb4 : W.heap.size ≤ w4.heap.size := G4.size
          have HS := Lib.hid (And.intro m1 (And.intro m4 (And.intro hB (And.intro hMok (And.intro hMl (And.intro hR4 G4))))))
          clear m1 m2 m3 m4 hB hMok hMl hR4 G4 k1 k2 k3 k4 k5 k6 k7 k8 hRok hlen el
          go_wp2_with fail
          go_region_law (refine step_append_own2 rfl (.tmp 47) (.tmp 53) 38 rfl W.heap.size 46 i0 (.agg #[.int .i64 0, .int .u64 0, .int .u64 0, .int .u64 0, .bool false, .int .i64 0]) 6 48 Try.underlying38 HI.out HZ0.out HZ1.out HZ2.out rfl (by decide) (.slice ad3 R.length cap3) R.length (R.flatMap En.cs) (by simp [Act.eval]) (World.ownsRow.drew (World.ownsRow.alloc OW.out _)) ⟨w4.heap.size, 0, none⟩ 1 1 f.cs (by simp [Act.eval]) rfl (CN.out w4) (by simpa using ON.out) (by unfold maxLen; omega) (by omega) (by simp; omega) ?_; intro v2' w5 own5 gr5; obtain ⟨ad2, cap2, rfl⟩ := row_any own5; have bp := Grown.block gr5 (PB.out _) NP.out; have q0 := (one_cell bp).1; have q1 := (one_cell bp).2; have BP := Lib.hid bp; have O5 := Lib.hid own5; have R5 := Lib.hid gr5; clear own5 gr5 bp)
          all_goals
            obtain ⟨m1, m4, hB, hMok, hMl, hR4, G4⟩ := HS.out
            have hnp : Value.ownBlock (.slice ad2 (R.length + 1) cap2) ≠ some w1.heap.size := fun e => by
              rcases R5.out.at _ e with h | h
              · exact NP.out _ h rfl
              · simp at h; omega
            have s6 := refAt_slice (R := R ++ [f]) (by simpa [List.flatMap_append, List.flatMap_cons] using O5.out) (by simp) hpr BP.out hnp
            have fr6 : Fr w4 _ w1.heap.size (.slice ad3 R.length cap3) (.slice ad2 (R.length + 1) cap2) := ((Fr.of_gr (v := .slice ad3 R.length cap3) (show Gr w4 _ from ((Below.refl _ _).alloc (Nat.le_refl _) _).drew)).trans (Fr.of_grown R5.out)).trans (s6.2 _)
            have h6 := two m1 hR4.2.symm fr6
            have g6 := fr6.gr G4 hpr (fun k h => (hR4.1.2.2.1.lt k h).1)
            have HE := Lib.hid (show PlayAt W.heap.size W.heap.size w1.heap.size (i + 1) W _ from ⟨_, M, m + 1, _, R ++ [f], h6.1, s6.1, m4, hB, h6.2.symm, hMok, g6, by have := HK.out.2.2.2.2.2.2.2.1; omega, hMl⟩)
            clear s6 fr6 h6 g6 m1 m4 hB hMok hMl hR4 G4 hnp
            go_wp2_with fail
            go_meet
            exact HE.out
        · have hb : (kd == 1) = false := by simp [hk1]
          cases L with
          | nil =>
            obtain rfl : R = [] := List.eq_nil_of_length_eq_zero (by simpa using hlen.symm)
            have A0 : ∀ w, Gr wr w → Calls Try.prog 27 #[.pointer (some ⟨W.heap.size, 0, none⟩)] w fun e w' => e = .returned (.tuple #[.agg #[.int .i64 0, .int .u64 0, .int .u64 0, .int .u64 0, .bool false, .int .i64 0], .bool false]) ∧ Gr w w' := fun w g => c_hTop w (heapAt_gr k1 g) (by simp)
            have A1 := fun w (g : Gr wr w) => pop_none (.pointer (some ⟨W.heap.size, 0, none⟩)) w (fun w' g' => A0 w' (Gr.trans g g'))
            obtain ⟨ad3, g3', cap3, rfl, -⟩ := refAt_form k2
            have A2 := fun w (g : Gr wr w) => rpop_none w1.heap.size cap3 ad3 w (one_cell (refAt_gr k2 g).2.1).1
            have A3 := fun w => c_same 0 0 0 0 false 0 w
            have HK := Lib.hid (fun w (g : Gr wr w) => show PlayAt W.heap.size W.heap.size w1.heap.size (i + 1) W w from ⟨v, [], m, _, [], heapAt_gr k1 g, refAt_gr k2 g, k3, k4, k5, k6, Gr.trans k7 g, by omega, by simp⟩)
            have H1 := Lib.hid A1
            have H2 := Lib.hid A2
            have H3 := Lib.hid A3
            clear A1 A2 A3
            clear A0 k1 k2 k3 k4 k5 k6 k7 k8 k9 hRok hlen hk1 kc
            go_wp2_with fail
            go_at_call 24
            (with_reducible refine (H1.out _ (Below.refl _ _)).mono ?_)
            rintro e w3 ⟨rfl, g3⟩
            have G3 := Lib.hid g3
            clear g3
            go_wp2_with fail
            go_at_call 25
            (with_reducible refine (H2.out _ (Gr.trans G3.out (by go_grown))).mono ?_)
            rintro e w4 ⟨rfl, g4⟩
            have B8 := (g4.block _ (by simp)).trans (heap_alloc_new w3 (.cells #[.int .i64 0, .int .u64 0, .int .u64 0, .int .u64 0, .bool false, .int .i64 0] 50))
            have G4 := Lib.hid (Gr.trans (Gr.trans G3.out (by go_grown)) g4)
            obtain ⟨x0, x1, x2, x3, x4, x5, xf⟩ := row6 B8
            have z8 := (Array.getElem?_eq_some_iff.1 B8).1
            clear g4 B8 xf
            go_wp2_with fail
            go_at_call 26
            (with_reducible refine (H3.out _).mono ?_)
            rintro e w5 ⟨rfl, g5⟩
            have G5 := Lib.hid (Gr.trans (Gr.trans G4.out (by go_grown)) g5)
            clear g5
            go_wp2_with fail
            go_meet
            exact HK.out _ G5.out
          | cons x0 L0 =>
            obtain ⟨LL, eL⟩ : ∃ LL, LL = x0 :: L0 := ⟨_, rfl⟩
            rw [← eL] at k1 k3 k4 k6 k9 hlen
            have A1 := Lib.hid (c_hPop x0 LL L0 eL W.heap.size W.heap.size m v (by omega) wr hsz k1 k6 k3)
            have hRpos : 0 < R.length := by rw [← hlen, eL]; simp
            obtain ⟨ad3, g3', cap3, rfl, -, -, hs3, -⟩ := refAt_form k2
            obtain ⟨rfl, -⟩ := hs3 hRpos
            have HK := Lib.hid (And.intro k1 (And.intro k2 (And.intro k3 (And.intro k4 (And.intro k5 (And.intro k6 (And.intro k7 (And.intro k8 (And.intro k9 (And.intro hRok (And.intro hlen hRpos)))))))))))
            clear k1 k2 k3 k4 k5 k6 k7 k8 k9 hRok hlen hk1 kc eL hs3 hRpos
            go_wp2_with fail
            go_at_call 24
            (with_reducible refine A1.out.mono ?_)
            rintro e w3 ⟨y, v', M, rfl, m1, m2, m3, m4, m5⟩
            obtain ⟨k1, k2, k3, k4, k5, k6, k7, k8, k9, hRok, hlen, hRpos⟩ := HK.out
            have hR3 := twoR k2 k5 m2
            have G3 : Gr W w3 := m2.gr k7 (Nat.le_refl _) (fun k h => ((heapAt_lt k1).2 k h).1)
            have hyL : y ∈ LL := m3.mem_iff.1 List.mem_cons_self
            obtain ⟨hk, hye, hbo⟩ := k4.first hyL m4
            have hbM := hbo M m3
            have hMok : ∀ z ∈ M, z.e.ok := fun z hz => k6 z (m3.mem_iff.1 (List.mem_cons_of_mem _ hz))
            have hMl : M.length ≤ i + 1 := by have := m3.length_eq; simp at this; omega
            have HS := Lib.hid (And.intro m1 (And.intro m5 (And.intro hbM (And.intro hMok (And.intro hMl (And.intro hR3 (And.intro G3 (And.intro hk hye))))))))
            clear m1 m2 m3 m4 m5 hbM hMok hMl hR3 G3 k1 k2 k3 k4 k5 k6 k7 k8 k9 hRok hlen hRpos hye hbo hyL
            go_upto_region 14 with fail
            obtain ⟨w4, hw4⟩ : ∃ w4, w3.alloc (.cells #[.int .i64 y.e.id, .int .u64 y.e.hi, .int .u64 y.e.lo, .int .u64 y.e.den, .bool y.e.item, .int .i64 y.e.node] 50) = w4 := ⟨_, rfl⟩
            rw [hw4]
            have g4 : Gr w3 w4 := by subst hw4; exact (Below.refl _ _).alloc (Nat.le_refl _) _
            have B8 : w4.heap[w3.heap.size]? = some (.cells #[.int .i64 y.e.id, .int .u64 y.e.hi, .int .u64 y.e.lo, .int .u64 y.e.den, .bool y.e.item, .int .i64 y.e.node] 50 (0, 0)) := by subst hw4; exact heap_alloc_new w3 _
            have A2 := Lib.hid (rpop_some R W.heap.size w1.heap.size g3' R.length cap3 (topI R R.length) y.e rfl (by have := HK.out.2.2.2.2.2.2.2.2; omega) HS.out.2.2.2.2.2.2.2.1 HS.out.2.2.2.2.2.2.2.2.symm w4 (Gr.trans HS.out.2.2.2.2.2.2.1 g4).size (refAt_gr HS.out.2.2.2.2.2.1.1 g4) (fun w g => c_rtop R _ _ _ (by have := HK.out.2.2.2.2.2.2.2.2; omega) w (refAt_gr HS.out.2.2.2.2.2.1.1 (Gr.trans g4 g)) HK.out.2.2.2.2.2.2.2.2.2.1))
            have HB8 := Lib.hid B8
            have G4 := Lib.hid g4
            clear hw4 B8 g4
            go_wp2_with fail
            go_at_call 25
            (with_reducible refine A2.out.mono ?_)
            rintro e w5 ⟨rfl, u', n1, n2⟩
            obtain ⟨m1, m5, hbM, hMok, hMl, hR3, G3, -, -⟩ := HS.out
            have hA5 := two (heapAt_gr m1 G4.out) hR3.2.symm n2
            have hr4 := (refAt_gr hR3.1 G4.out)
            have b8 := n2.block HB8.out (by have := (Array.getElem?_eq_some_iff.1 hR3.1.2.1).1; omega) (fun e => by have := (hR3.1.2.2.1.lt _ e.symm).2; omega)
            obtain ⟨x0', x1, x2, x3, x4, x5, xf⟩ := row6 b8
            have z8 := (Array.getElem?_eq_some_iff.1 b8).1
            have G5 : Gr W w5 := n2.gr (Gr.trans G3 G4.out) hpr (fun k h => (hR3.1.2.2.1.lt k h).1)
            have A3 := Lib.hid (fun w => c_same y.e.id y.e.hi y.e.lo y.e.den y.e.item y.e.node w)
            have HE := Lib.hid (show PlayAt W.heap.size W.heap.size w1.heap.size (i + 1) W w5 from ⟨v', M, m, u', _, hA5.1, n1, m5, hbM, hA5.2.symm, hMok, G5, by have := HK.out.2.2.2.2.2.2.2.1; omega, hMl⟩)
            clear n1 n2 m1 m5 hbM hMok hMl hR3 G3 hA5 hr4 b8 xf G5
            go_wp2_with fail
            go_at_call 26
            (with_reducible refine (A3.out _).mono ?_)
            rintro e w6 ⟨rfl, g6⟩
            have G6 := Lib.hid (Gr.trans (show Gr w5 _ by go_grown) g6)
            clear g6
            go_wp2_with fail
            go_meet
            exact playAt_gr HE.out G6.out
      case rest =>
        obtain ⟨v, L, m, u, R, k1, k2, k3, k4, k5, k6, k7, k8, k9⟩ := id hcut
        obtain ⟨e, q, tv1, tv2⟩ := tops_alike k4 k3
        have hRok := both_ok k4 k6
        have hlen := k4.len
        have A1 : ∀ w, Gr wc w → Calls Try.prog 27 #[.pointer (some ⟨W.heap.size, 0, none⟩)] w fun e' w' => e' = .returned (.tuple #[.agg #[.int .i64 (e).id, .int .u64 (e).hi, .int .u64 (e).lo, .int .u64 (e).den, .bool (e).item, .int .i64 (e).node], .bool q]) ∧ Gr w w' := fun w g => by
          have := c_hTop w (heapAt_gr k1 g) (by omega)
          rw [tv1] at this
          exact this
        have A2 : ∀ w, Gr wc w → Calls Try.prog 28 #[.pointer (some ⟨w1.heap.size, 0, none⟩)] w fun e' w' => e' = .returned (.tuple #[.agg #[.int .i64 (e).id, .int .u64 (e).hi, .int .u64 (e).lo, .int .u64 (e).den, .bool (e).item, .int .i64 (e).node], .bool q]) ∧ Gr w w' := fun w g => by
          have := c_rTop R _ _ _ (by omega) w (refAt_gr k2 g) hRok
          rw [tv2] at this
          exact this
        have A3 : ∀ w, Gr wc w → Calls Try.prog 29 #[.pointer (some ⟨W.heap.size, 0, none⟩)] w fun e' w' => e' = .returned (.int .i64 L.length) ∧ Gr w w' := fun w g => c_hLen w (heapAt_gr k1 g)
        have A4 := fun w => c_same e.id e.hi e.lo e.den e.item e.node w
        obtain ⟨l, el⟩ : ∃ l, l = L.length := ⟨_, rfl⟩
        obtain ⟨ad', g', cap', rfl, hc1, hc2, -⟩ := refAt_form k2
        rw [← hlen, ← el] at hc1
        have pc : wc.cell? ⟨w1.heap.size, 0, none⟩ = some (.slice ad' l cap') := by
          have := (one_cell k2.2.1).1
          rw [← hlen, ← el] at this
          exact this
        rw [← el] at A3
        have hq : (q != q) = false := by simp
        have hll : ((l : Int) != (l : Int)) = false := by simp
        have hll2 : (l != l) = false := by simp
        have HC := Lib.hid hcut
        have zpr := World.block_lt_of_cell? _ _ pc
        have H1 := Lib.hid A1
        have H2 := Lib.hid A2
        have H3 := Lib.hid A3
        have H4 := Lib.hid A4
        clear A1 A2 A3 A4
        clear hcut k1 k2 k3 k4 k5 k6 k7 k8 k9 tv1 tv2 hRok hlen el kc hgw
        go_wp2_with fail
        go_at_call 27
        (with_reducible refine (H1.out _ (Below.refl _ _)).mono ?_)
        rintro e' w3 ⟨rfl, g3⟩
        have G3 := Lib.hid g3
        clear g3
        go_wp2_with fail
        go_at_call 28
        (with_reducible refine (H2.out _ (Gr.trans G3.out (by go_grown))).mono ?_)
        rintro e' w4 ⟨rfl, g4⟩
        have B8 := (g4.block _ (by simp)).trans (heap_alloc_new w3 (.cells #[.int .i64 e.id, .int .u64 e.hi, .int .u64 e.lo, .int .u64 e.den, .bool e.item, .int .i64 e.node] 50))
        have G4 := Lib.hid (Gr.trans (Gr.trans G3.out (by go_grown)) g4)
        clear g4
        go_upto_region 19 with fail
        obtain ⟨w5, hw5⟩ : ∃ w5, w4.alloc (.cells #[.int .i64 e.id, .int .u64 e.hi, .int .u64 e.lo, .int .u64 e.den, .bool e.item, .int .i64 e.node] 46) = w5 := ⟨_, rfl⟩
        rw [hw5]
        have g5 : Gr w4 w5 := by subst hw5; exact (Below.refl _ _).alloc (Nat.le_refl _) _
        have C8 : w5.heap[w4.heap.size]? = some (.cells #[.int .i64 e.id, .int .u64 e.hi, .int .u64 e.lo, .int .u64 e.den, .bool e.item, .int .i64 e.node] 46 (0, 0)) := by subst hw5; exact heap_alloc_new w4 _
        obtain ⟨x0, x1, x2, x3, x4, x5, xf⟩ := row6 ((g5.block _ (Array.getElem?_eq_some_iff.1 B8).1).trans B8)
        obtain ⟨y0, y1, y2, y3, y4, y5, yf⟩ := row6 C8
        have G5 : Gr wc w5 := Gr.trans G4.out g5
        have pc5 := cell_gr G5 pc
        have HG5 := Lib.hid G5
        clear hw5 g5 C8 B8 G3 G4 xf yf pc G5
        go_wp2_with fail
        refine wp_region_spread (by kernel_rfl) (by kernel_rfl) ?_
        try simp only [List.append]
        repeat (first | go_big_quiet_skip | (go_big_quiet_want; go_big_quiet_op; (first | go_big_quiet_on | (apply Exists.intro; refine ⟨fun _ => ?_, ?_⟩; (· (first | (go_at_call 26; first | ((with_reducible refine ((H4.out _)).mono ?_); rintro e w' ⟨rfl, hg⟩; exact ⟨rfl, spread_gr hg⟩)) | (go_at_call 29; first | ((with_reducible refine ((H3.out _ (Gr.trans HG5.out (gr_spread _ _)))).mono ?_); rintro e w' ⟨rfl, hg⟩; exact ⟨rfl, spread_gr hg⟩)))); go_big_quiet_on))))
        refine wpQuiet_nil ?_
        intro wr hr
        obtain ⟨mr, rfl⟩ := hr
        go_wp2_with fail
        go_roundg (n - (i + 1))
        case measure => exact hm
        case rel =>
          refine ⟨i + 1, by go_num, hi1, rfl, ?_⟩
          exact playAt_gr HC.out (Gr.trans HG5.out (gr_spread _ _))
    · obtain rfl : i = n := by omega
      have ti : decide ((i : Int) < (i : Int)) = false := decide_eq_false (by omega)
      have ti2 : decide (i < i) = false := decide_eq_false (by omega)
      have hgw : Gr W wr := by obtain ⟨v, L, m, u, R, -, -, -, -, -, -, g, -⟩ := hPl; exact g
      have HG := Lib.hid hgw
      clear hgw hPl
      go_wp2_with fail
      go_at_call 20
      (with_reducible refine (p15_awake _).mono ?_)
      rintro e w6 ⟨rfl, g6⟩
      go_wp2_with fail
      go_ret
      exact ⟨rfl, Gr.trans HG.out g6⟩
set_option maxHeartbeats 2000000 in
theorem walk_HeapPlays (W : World) (ad : Option Addr) (b off n cap : Nat) (K : Nat → Int) (F : Nat → En) (B0 : n ≤ cap ∧ (cap : Int) ≤ 9223372036854775807 ∧ (0 < n → ad = some ⟨b, off, none⟩) ∧ ∀ k, k < n → (F k).ok ∧ W.cell? ⟨b, off + k * 7, none⟩ = some (.int .i64 (K k)) ∧ EntAt W b (off + k * 7 + 1) (F k)) :
    Calls Try.prog 5 #[.slice ad n cap] W fun e w' => e = .returned (.bool true) ∧ Gr W w' := by
  by_cases h : n ≤ 200
  · exact plays_core ad b off n cap K F B0.2.2.1 h B0.1 W B0.2.2.2
  · have t0 : decide ((200 : Int) < (n : Int)) = true := decide_eq_true (by omega)
    have t00 : decide (200 < n) = true := decide_eq_true (by omega)
    clear B0
    go_enter Try.func5, Try.ntmps5
    go_wp2_with fail
    go_at_call 20
    (with_reducible refine (p15_awake _).mono ?_)
    rintro e w6 ⟨rfl, g6⟩
    go_wp2_with fail
    go_ret
    exact ⟨rfl, g6⟩
end Go.Proofs.Ytldlpbfncgcimaa
