/- SlotsKeep: the walk (under way) -/
import Derived.Test.YtilijbplfobneaaSn
import Derived.Deep.CutBlock
namespace Go.Proofs.Ytilijbplfobneaa
set_option linter.unusedVariables false
set_option linter.unusedSimpArgs false
open Go.ChangeShapes Go.WideShapes Go.ChangeAt Go.RowKit

theorem keep_cellH {W w : World} {B H Cw s : Nat} {C : Option Nat} {S : List Sl} {hs : List Bool} {xs : List Value} {wf : Nat → Sl} {vL : Value} {L : List UInt8} (h : KeepS W w B C S H hs Cw xs wf vL L) (hl : hs.length = 60) (hk : s < 60) :
    w.cell? ⟨H, s, none⟩ = some (.bool (hs.getD s false)) ∧ w.frozen? ⟨H, s, none⟩ = false ∧ H < w.heap.size := by
  refine ⟨?_, h.rH.frozenAt s, (World.ownsRow.lt h.rH H rfl).2⟩
  have hc := h.rH.cellAt s (by omega)
  rw [hc, List.getElem?_map, List.getD_eq_getElem?_getD, List.getElem?_eq_getElem (by omega)]
  rfl
theorem keep_cellW {W w : World} {B H Cw s : Nat} {C : Option Nat} {S : List Sl} {hs : List Bool} {xs : List Value} {wf : Nat → Sl} {vL : Value} {L : List UInt8} (h : KeepS W w B C S H hs Cw xs wf vL L) (hk : s < 60) :
    ∃ a m c, xs[s]? = some (.slice a m c) ∧ w.cell? ⟨Cw, s, none⟩ = some (.slice a m c) ∧ w.frozen? ⟨Cw, s, none⟩ = false ∧ Cw < w.heap.size := by
  have hlen : xs.length = 60 := by have := h.rW.1; omega
  obtain ⟨a, m, c, e⟩ := h.sl xs[s] (List.getElem_mem (by omega))
  have e2 : xs[s]? = some (.slice a m c) := by rw [List.getElem?_eq_getElem (by omega), e]
  refine ⟨a, m, c, e2, ?_, h.rW.frozenAt s, (World.ownsRow.lt h.rW Cw rfl).2⟩
  have hc := h.rW.cellAt s (by omega)
  rw [hc, e2]
theorem reS_zero {S : List Sl} {n m : Nat} (h : reS S n m = 0) : n < 60 ∧ m ≤ 400 := by
  unfold reS at h
  by_cases h1 : 400 < m
  · rw [if_pos h1] at h; omega
  · rw [if_neg h1] at h
    by_cases h2 : 60 ≤ n
    · rw [if_pos h2] at h; omega
    · omega
theorem kxPg_gr {W w w' : World} {B : Nat} {C : Option Nat} (K : Kx (fun k => pgZ B C k ∨ w.heap.size ≤ k) w w') (G : Gr W w) (hn : ∀ k, pgZ B C k → W.heap.size ≤ k) : Gr W w' :=
  Kx.gr K G (fun k hk => by rcases hk with hk | hk; exact hn k hk; exact Nat.le_trans G.size hk)
theorem flag_get {hs : List Bool} (hl : hs.length = 60) {s : Nat} (h : s < 60) (b : Bool) (j : Nat) (hj : j < 60) : (hs.set s b).getD j false = if j = s then b else hs.getD j false := by
  rw [List.getD_eq_getElem?_getD, List.getElem?_set]
  by_cases e : s = j
  · rw [if_pos e, if_pos e.symm, if_pos (by omega)]; rfl
  · rw [if_neg e, if_neg (fun h => e h.symm)]; rfl
/-- Bytes are put in, flag and bytes are kept. -/
theorem keepX_put {W w : World} {B H Cw n : Nat} {C : Option Nat} {S : List Sl} {hs : List Bool} {xs : List Value} {wf : Nat → Sl} {L : List UInt8} {ad : Option Addr} {m c : Nat} (h : KeepS W w B C (putS S n (some L)) H (hs.set n true) Cw xs wf (.slice ad m c) L) (hl : hs.length = 60) (hj : ∀ j, j < 60 → hs.getD j false = (S.getD j none).isSome ∧ wf j = S.getD j none) (hn : n < 60) (hS : n ≤ S.length) (he : reS S n L.length = 0) :
    KeepX W (w.setCell ⟨Cw, n, none⟩ (.slice ad m c)) B H Cw := by
  refine ⟨C, _, _, _, _, _, _, keep_want h hn (reS_zero he).2, by simpa using hl, fun j h60 => ?_, usS_put hS he⟩
  rw [flag_get hl hn true j h60, putS_get hS]
  by_cases e : j = n
  · rw [if_pos e, if_pos e, if_pos e]; exact ⟨rfl, rfl⟩
  · rw [if_neg e, if_neg e, if_neg e]; exact hj j h60
/-- The flag stands already. -/
theorem flag_same {hs : List Bool} {n : Nat} {b : Bool} (h : hs.getD n false = b) (hl : n < hs.length) : hs.set n b = hs := by
  apply List.ext_getElem?
  intro j
  rw [List.getElem?_set]
  by_cases e : n = j
  · subst e
    rw [if_pos rfl, if_pos hl, ← h, List.getD_eq_getElem?_getD, List.getElem?_eq_getElem hl]
    rfl
  · rw [if_neg e]
/-- What is wanted of a slot that is freed is forgotten. -/
theorem keep_forget {W w : World} {B H Cw s : Nat} {C : Option Nat} {S : List Sl} {hs : List Bool} {xs : List Value} {wf : Nat → Sl} {vL : Value} {L : List UInt8} (h : KeepS W w B C S H hs Cw xs wf vL L) : KeepS W w B C S H hs Cw xs (fun j => if j = s then none else wf j) vL L :=
  ⟨h.page, h.new, h.rH, h.rW, h.sl, fun j X hj e => by
    by_cases ej : j = s
    · rw [if_pos ej] at e; cases e
    · rw [if_neg ej] at e; exact h.wants j X hj e, h.hL, h.offH, h.offW, h.ne⟩
theorem keepX_del {W w : World} {B H Cw s : Nat} {C : Option Nat} {S : List Sl} {hs : List Bool} {xs : List Value} {wf : Nat → Sl} {vL : Value} {L : List UInt8} (h : KeepS W w B C (delS S s) H (hs.set s false) Cw xs wf vL L) (hl : hs.length = 60) (hj : ∀ j, j < 60 → hs.getD j false = (S.getD j none).isSome ∧ wf j = S.getD j none) (hn : s < 60) (hS : s < S.length) (hu : usS S ≤ 512) :
    KeepX W w B H Cw := by
  refine ⟨C, _, _, _, _, _, _, keep_forget (s := s) h, by simpa using hl, fun j h60 => ?_, Nat.le_trans (usS_del hS) hu⟩
  rw [flag_get hl hn false j h60, delS_get hS]
  by_cases e : j = s
  · rw [if_pos e, if_pos e, if_pos e]; exact ⟨rfl, rfl⟩
  · rw [if_neg e, if_neg e, if_neg e]; exact hj j h60
theorem up_next (u : Nat) (X : List UInt8) : Value.int .i64 ((u : Int) + 4 + (X.length : Int)) = Value.int .i64 ((u + (if (some X : Sl).isSome then 4 + szO (some X) else 0) : Nat) : Int) := by
  show _ = Value.int .i64 ((u + (4 + X.length) : Nat) : Int)
  congr 1
  omega
/-- How a slot stands. -/
theorem keep_slot {W w : World} {B H Cw j : Nat} {C : Option Nat} {S : List Sl} {hs : List Bool} {xs : List Value} {wf : Nat → Sl} {vL : Value} {L X : List UInt8} (h : KeepS W w B C S H hs Cw xs wf vL L) (hk : j < 60) (hw : wf j = some X) :
    ∃ a c, w.cell? ⟨Cw, j, none⟩ = some (.slice a X.length c) ∧ X.length ≤ 400 ∧ RowOff w (pgZ B C) (.slice a X.length c) X := by
  obtain ⟨a, m, c, e1, e2, e3, e4⟩ := keep_cellW h hk
  obtain ⟨v, e5, hr, hl⟩ := h.wants j X hk hw
  obtain rfl : v = .slice a m c := by rw [e1] at e5; exact (Option.some.inj e5).symm
  obtain rfl : X.length = m := by obtain ⟨⟨_, _, _, _, e, _⟩, _⟩ := hr; cases e; rfl
  exact ⟨a, c, e2, hl, hr⟩
theorem up_small {S : List Sl} (h : ∀ j, szO (S.getD j none) ≤ 400) {j : Nat} (hj : j ≤ 60) : upT S j ≤ 30000 := by
  have h1 := upT_le S j
  have h2 := szT_le h j
  have h3 : j * 400 ≤ 60 * 400 := Nat.mul_le_mul_right _ hj
  omega
theorem up_facts {u z : Nat} (hu : u ≤ 30000) (hz : z ≤ 400) : IntKind.i64.wrap ((u : Int) + 4) = (u : Int) + 4 ∧ wrap64 ((u : Int) + 4) = (u : Int) + 4 ∧ IntKind.i64.wrap ((u : Int) + 4 + (z : Int)) = (u : Int) + 4 + (z : Int) ∧ wrap64 ((u : Int) + 4 + (z : Int)) = (u : Int) + 4 + (z : Int) :=
  ⟨wk_small (by omega), wr_small (by omega), wk_small (by omega), wr_small (by omega)⟩
theorem free_facts {us up : Nat} (h1 : up + 16 ≤ us) (h2 : us ≤ 512) : decide ((512 : Int) - (us : Int) < 0) = false ∧ IntKind.i64.wrap (496 - (up : Int)) = 496 - (up : Int) ∧ wrap64 (496 - (up : Int)) = 496 - (up : Int) ∧ decide ((496 : Int) - (up : Int) < 512 - (us : Int)) = false ∧ ¬ (512 : Int) - (us : Int) < 0 ∧ ¬ (496 : Int) - (up : Int) < 512 - (us : Int) :=
  ⟨decide_eq_false (by omega), wk_small (by omega), wr_small (by omega), decide_eq_false (by omega), by omega, by omega⟩
set_option maxHeartbeats 4000000 in
set_option maxRecDepth 100000 in
theorem keeps_core (W : World) (v : Value) (n : Nat) (A E D : Nat → Int) (h : Steps3 W v n A E D) (hn : n ≤ 150) : Calls Try.prog 3 #[v] W fun e w' => e = .returned (.bool true) ∧ Gr W w' := by
  obtain ⟨ad0, cap0, B0, off0, rfl, c1, c2, c3, c4, c5⟩ := h
  have HI0 := Lib.hid (And.intro c4 c5)
  obtain ⟨ow, M1, M2⟩ := make60s
  obtain ⟨ob, M3, M4⟩ := make60b
  have HM := Lib.hid (And.intro M2 M4)
  have AB : ∀ m i : Nat, m ≤ 1000 → i ≤ 1000 → ∀ w, Calls Try.prog 6 #[.int .i64 (m : Nat), .int .i64 (i : Nat)] w fun e w' => e = .returned (.slice (some ⟨w.heap.size, 0, none⟩) m m) ∧ Own w' w.heap.size (.slice (some ⟨w.heap.size, 0, none⟩) m m) (blk (i : Nat) m) ∧ Gr w w' := fun m i hm hi w => c_Block m (by omega) i (by omega) w
  have HBk := Lib.hid AB
  have t1 : decide ((150 : Int) < (n : Int)) = false := decide_eq_false (by omega)
  have t2 : ¬ (150 : Int) < (n : Int) := by omega
  clear c2 c4 c5 M2 M4 AB
  go_enter Try.func3, Try.ntmps3
  go_wp2_with fail
  go_at_call 5
  refine (p_newS 0 0 (by decide) _).mono ?_
  rintro e w1 ⟨B, rfl, hB, hp, g1⟩
  have G1 : Gr W w1 := g1
  have HX : Hid (KeepX W ((w1.alloc ow).alloc ob) B (w1.heap.size + 1) w1.heap.size) := Lib.hid (by
    have := keepX_start hp hB G1 (HM.out.1 w1) (HM.out.2 (w1.alloc ow))
    rw [show (w1.alloc ow).heap.size = w1.heap.size + 1 by simp] at this
    exact this)
  have G2 : Gr W ((w1.alloc ow).alloc ob) := Gr.trans (Gr.trans G1 ((Below.refl _ _).alloc (Nat.le_refl _) _)) ((Below.refl _ _).alloc (Nat.le_refl _) _)
  clear hp g1
  go_wp2_with fail
  obtain ⟨Cw, hCw⟩ : ∃ x, x = w1.heap.size := ⟨_, rfl⟩
  rw [← hCw] at HX ⊢
  clear hCw
  go_loopg [7] n (fun j x wr => ∃ i : Nat, x = .int .i64 i ∧ i ≤ n ∧ j = n - i ∧ Hid (KeepX W wr B (Cw + 1) Cw) ∧ Gr W wr)
  case atStart => exact ⟨0, rfl, by omega, by omega, HX, G2⟩
  case round =>
    obtain ⟨i, rfl, hi, hj, HD, hg⟩ := hrel
    by_cases hin : i < n
    · have ti : decide ((i : Int) < (n : Int)) = true := decide_eq_true (by omega)
      have ti2 : decide (i < n) = true := decide_eq_true hin
      have ti3 : (i : Int) < (n : Int) := by omega
      have ti4 : (i : Int) < (cap0 : Int) := by omega
      obtain rfl := c3 (by omega)
      have q0 := cell_gr hg (HI0.out.1 i hin).1
      have q1 := cell_gr hg (HI0.out.1 i hin).2.1
      have q2 := cell_gr hg (HI0.out.1 i hin).2.2
      have ARm := Lib.hid (c_RoundS (D i) 200 (by decide) (by decide) (HI0.out.2 i).2.2)
      have ARs := Lib.hid (c_RoundS (E i) 60 (by decide) (by decide) (HI0.out.2 i).2.1)
      generalize D i = dz at q2 ARm
      generalize E i = es at q1 ARs
      generalize A i = kd at q0
      go_wp2_with fail
      go_at_call 7
      refine (ARm.out _).mono ?_
      rintro e w3 ⟨m, hm, rfl, g3⟩
      have ABi := Lib.hid (HBk.out m i (by omega) (by omega))
      have G3 : Gr wr w3 := g3
      have k1 := cell_gr g3 q1
      have k0 := cell_gr g3 q0
      clear g3 q0 q1 q2
      go_wp2_with fail
      go_at_call 6
      refine (ABi.out _).mono ?_
      rintro e w4 ⟨rfl, o4, g4⟩
      have HL4 : Hid (∃ C S hs xs wf, KeepS W w4 B C S (Cw + 1) hs Cw xs wf (.slice (some ⟨w3.heap.size, 0, none⟩) m m) (blk (i : Nat) m) ∧ hs.length = 60 ∧ (∀ j, j < 60 → hs.getD j false = (S.getD j none).isSome ∧ wf j = S.getD j none) ∧ usS S ≤ 512) := Lib.hid (by
        obtain ⟨C, S, hs, xs, wf, vL, L, h1, h2⟩ := HD.out
        exact ⟨C, S, hs, xs, wf, keep_loose (keep_gr h1 G3) g4 o4, h2⟩)
      have G4 : Gr wr w4 := Gr.trans G3 g4
      have l1 := cell_gr g4 k1
      have l0 := cell_gr g4 k0
      clear g4 o4 k0 k1
      go_wp2_with fail
      go_at_call 7
      refine (ARs.out _).mono ?_
      rintro e w5 ⟨s, hs5, rfl, g5⟩
      have m0 := cell_gr g5 l0
      have G5 : Gr W w5 := Gr.trans hg (Gr.trans G4 g5)
      have HL5 : Hid (∃ C S hs xs wf, KeepS W w5 B C S (Cw + 1) hs Cw xs wf (.slice (some ⟨w3.heap.size, 0, none⟩) m m) (blk (i : Nat) m) ∧ hs.length = 60 ∧ (∀ j, j < 60 → hs.getD j false = (S.getD j none).isSome ∧ wf j = S.getD j none) ∧ usS S ≤ 512) := Lib.hid (by
        obtain ⟨C, S, hs, xs, wf, h1, h2⟩ := HL4.out
        exact ⟨C, S, hs, xs, wf, keep_gr h1 g5, h2⟩)
      clear g5 l0 l1 HL4 HD hg G3 G4 ARm ARs ABi
      go_upto_block 2 with fail
      go_cut [] from 35 to 184 (fun wx => Hid (KeepX W wx B (Cw + 1) Cw) ∧ Gr W wx)
      case first =>
        by_cases e1 : kd = 1
        · have x1 : (kd == 1) = true := by simpa using e1
          obtain ⟨C, S, hs, xs, wf, hK, hlen, hjj, hus⟩ := HL5.out
          by_cases he : reS S (lfS S) m = 0
          · have AI := p_insertS m m (some ⟨w3.heap.size, 0, none⟩) (blk_len _ m).symm (by rw [blk_len]; exact he) w5 hK.page hK.hL
            have hlf := lfS_le S
            have hlb := lfS_before S
            have hla := lfS_at S
            have hk60 := (reS_zero he).1
            unfold insS at AI
            generalize lfS S = k at AI he hlf hlb hla hk60
            have HAI := Lib.hid AI
            have HK5 := Lib.hid (And.intro hK (And.intro hlen (And.intro hjj (And.intro hus (And.intro he (And.intro hlf (And.intro hlb hla)))))))
            have t3 : decide ((k : Int) < 0) = false := decide_eq_false (by omega)
            have t4 : decide ((60 : Int) ≤ (k : Int)) = false := decide_eq_false (by omega)
            have t5 : (k : Int) < 60 := by omega
            have t6 : (0 : Int) ≤ (k : Int) := by omega
            have t7 : ¬ (60 : Int) ≤ (k : Int) := by omega
            clear AI hK hlen hjj hus he hlf hlb hla HL5 e1
            go_wp2_with fail
            go_at_call 8
            refine (HAI.out).mono ?_
            rintro e w6 ⟨rfl, D6, hp6, hD6, hk6⟩
            have hK6 := keep_turn HK5.out.1 hp6 hk6 (by rcases hD6 with h | h; left; exact h.symm; right; exact ⟨D6, rfl, h⟩) G5
            have G6 := kxPg_gr hk6 G5 HK5.out.1.new
            obtain ⟨y1, y2, y3⟩ := keep_cellH hK6 HK5.out.2.1 hk60
            rw [(HK5.out.2.2.1 k hk60).1, HK5.out.2.2.2.2.2.2.2] at y1
            have y0 : ∀ j, j < k → w6.cell? ⟨Cw + 1, j, none⟩ = some (.bool true) := fun j hj => by
              have h := (keep_cellH hK6 HK5.out.2.1 (show j < 60 by omega)).1
              rw [(HK5.out.2.2.1 j (by omega)).1, HK5.out.2.2.2.2.2.2.1 j hj] at h
              exact h
            have Hy0 := Lib.hid y0
            have HK6 := Lib.hid hK6
            clear hp6 hD6 hk6 y0 hK6 HAI
            obtain ⟨wo, rfl⟩ : ∃ x, x = wr := ⟨wr, rfl⟩
            go_wp2_with fail
            go_loopg [12] k (fun j x wr => ∃ a : Nat, x = .int .i64 a ∧ a ≤ k ∧ j = k - a ∧ wr = w6)
            case atStart => exact ⟨0, rfl, by omega, by omega, rfl⟩
            case round =>
              obtain ⟨a, rfl, ha, haj, rfl⟩ := hrel
              by_cases hak : a < k
              · have t8 : decide ((a : Int) < (k : Int)) = true := decide_eq_true (by omega)
                have t9 : (a : Int) < 60 := by omega
                have q1 := Hy0.out a hak
                go_wp2_with fail
                go_roundg (k - (a + 1))
                case measure => omega
                case rel => exact ⟨a + 1, by go_num, by omega, by omega, rfl⟩
              · obtain rfl : a = k := by omega
                have t8 : decide ((a : Int) < (a : Int)) = false := decide_eq_false (by omega)
                have hK7 := keep_flag (k := a) true HK6.out
                obtain ⟨va, vm, vc, -, z1, z2, z3⟩ := keep_cellW hK7 hk60
                have HX7 := Lib.hid (keepX_put hK7 HK5.out.2.1 HK5.out.2.2.1 hk60 HK5.out.2.2.2.2.2.1 (by rw [blk_len]; exact HK5.out.2.2.2.2.1))
                have G7 : Gr W (wr.setCell ⟨Cw + 1, a, none⟩ (.bool true)) := by
                  have := HK6.out.offH.2
                  exact G6.setCell (p := ⟨Cw + 1, a, none⟩) this _
                have G8 : Gr W ((wr.setCell ⟨Cw + 1, a, none⟩ (.bool true)).setCell ⟨Cw, a, none⟩ (.slice (some ⟨w3.heap.size, 0, none⟩) m m)) := by
                  have := HK6.out.offW.2
                  exact G7.setCell (p := ⟨Cw, a, none⟩) this _
                clear hK7
                go_wp2_with fail
                go_meet
                exact ⟨HX7, G8⟩
          · obtain ⟨k1, hk1⟩ : ∃ k1, reS S (lfS S) m = k1 + 1 := ⟨reS S (lfS S) m - 1, by omega⟩
            have AI := p_insert_no m m (some ⟨w3.heap.size, 0, none⟩) hk1 w5 hK.page
            have HAI := Lib.hid AI
            have HK5 := Lib.hid (And.intro hK (And.intro hlen (And.intro hjj hus)))
            clear AI hK hlen hjj hus he HL5 hk1 e1
            go_wp2_with fail
            go_at_call 8
            refine (HAI.out).mono ?_
            rintro e w6 ⟨F, rfl, -, g6⟩
            have HX6 : Hid (KeepX W w6 B (Cw + 1) Cw) := Lib.hid ⟨C, S, hs, xs, wf, _, _, keep_gr HK5.out.1 g6, HK5.out.2⟩
            have G6 : Gr W w6 := Gr.trans G5 g6
            clear g6 HAI
            go_wp2_with fail
            go_meet
            exact ⟨HX6, G6⟩
        · have x1 : (kd == 1) = false := by simpa using e1
          by_cases e2 : kd = 2
          · have x2 : (kd == 2) = true := by simpa using e2
            obtain ⟨C, S, hs, xs, wf, hK, hlen, hjj, hus⟩ := HL5.out
            have t5 : (s : Int) < 60 := by omega
            have t6 : (0 : Int) ≤ (s : Int) := by omega
            cases hh : (S.getD s none).isSome with
            | false =>
              have AI := p_set_none (s : Int) (.slice (some ⟨w3.heap.size, 0, none⟩) m m) (by rw [hasS_nat, hh]) w5 hK.page
              have HAI := Lib.hid AI
              have HK5 := Lib.hid (And.intro hK (And.intro hlen (And.intro hjj hus)))
              clear AI hK hlen hjj hus hh HL5 e1 e2
              go_wp2_with fail
              go_at_call 9
              refine (HAI.out).mono ?_
              rintro e w6 ⟨F, rfl, -, g6⟩
              have HX6 : Hid (KeepX W w6 B (Cw + 1) Cw) := Lib.hid ⟨C, S, hs, xs, wf, _, _, keep_gr HK5.out.1 g6, HK5.out.2⟩
              have G6 : Gr W w6 := Gr.trans G5 g6
              clear g6 HAI
              go_wp2_with fail
              go_meet
              exact ⟨HX6, G6⟩
            | true =>
              have hlt := has_lt hh
              by_cases he : reS S s m = 0
              · have AI := p_setS (L := blk (i : Nat) m) s m m (some ⟨w3.heap.size, 0, none⟩) (by rw [hasS_nat, hh]) hlt (blk_len _ m).symm (by rw [blk_len]; exact he) w5 hK.page hK.hL
                have HAI := Lib.hid AI
                have HK5 := Lib.hid (And.intro hK (And.intro hlen (And.intro hjj (And.intro hus (And.intro he (And.intro hlt hh))))))
                clear AI hK hlen hjj hus he hlt hh HL5 e1 e2
                go_wp2_with fail
                go_at_call 9
                refine (HAI.out).mono ?_
                rintro e w6 ⟨rfl, D6, hp6, hD6, hk6⟩
                have hK6 := keep_turn HK5.out.1 hp6 hk6 (by rcases hD6 with h | h; left; exact h.symm; right; exact ⟨D6, rfl, h⟩) G5
                have G6 := kxPg_gr hk6 G5 HK5.out.1.new
                obtain ⟨y1, y2, y3⟩ := keep_cellH hK6 HK5.out.2.1 hs5
                have hfl : hs.getD s false = true := by rw [(HK5.out.2.2.1 s hs5).1, HK5.out.2.2.2.2.2.2]
                rw [hfl] at y1
                obtain ⟨va, vm, vc, -, z1, z2, z3⟩ := keep_cellW hK6 hs5
                have hK7 := hK6
                rw [← flag_same hfl (by rw [HK5.out.2.1]; exact hs5)] at hK7
                have HX7 := Lib.hid (keepX_put hK7 HK5.out.2.1 HK5.out.2.2.1 hs5 (Nat.le_of_lt HK5.out.2.2.2.2.2.1) (by rw [blk_len]; exact HK5.out.2.2.2.2.1))
                have G8 : Gr W (w6.setCell ⟨Cw, s, none⟩ (.slice (some ⟨w3.heap.size, 0, none⟩) m m)) := by
                  have := hK6.offW.2
                  exact G6.setCell (p := ⟨Cw, s, none⟩) this _
                clear hp6 hD6 hk6 hK6 HAI hK7 hfl
                go_wp2_with fail
                go_meet
                exact ⟨HX7, G8⟩
              · obtain ⟨k1, hk1⟩ : ∃ k1, reS S s m = k1 + 1 := ⟨reS S s m - 1, by omega⟩
                have AI := p_set_no s m m (some ⟨w3.heap.size, 0, none⟩) (by rw [hasS_nat, hh]) hlt hk1 w5 hK.page
                have HAI := Lib.hid AI
                have HK5 := Lib.hid (And.intro hK (And.intro hlen (And.intro hjj hus)))
                clear AI hK hlen hjj hus he hlt hh HL5 hk1 e1 e2
                go_wp2_with fail
                go_at_call 9
                refine (HAI.out).mono ?_
                rintro e w6 ⟨F, rfl, -, g6⟩
                have HX6 : Hid (KeepX W w6 B (Cw + 1) Cw) := Lib.hid ⟨C, S, hs, xs, wf, _, _, keep_gr HK5.out.1 g6, HK5.out.2⟩
                have G6 : Gr W w6 := Gr.trans G5 g6
                clear g6 HAI
                go_wp2_with fail
                go_meet
                exact ⟨HX6, G6⟩
          · have x2 : (kd == 2) = false := by simpa using e2
            by_cases e3 : kd = 3
            · have x3 : (kd == 3) = true := by simpa using e3
              obtain ⟨C, S, hs, xs, wf, hK, hlen, hjj, hus⟩ := HL5.out
              have s8 : (s : Int) < 60 := by omega
              have s9 : (0 : Int) ≤ (s : Int) := by omega
              have s10 : ¬ (60 : Int) ≤ (s : Int) := by omega
              cases hh : (S.getD s none).isSome with
              | false =>
                have AD := p_delete_no (s : Int) (by rw [hasS_nat, hh]) w5 hK.page
                have HAD := Lib.hid AD
                have HK5 := Lib.hid (And.intro hK (And.intro hlen (And.intro hjj (And.intro hus hh))))
                clear AD hK hlen hjj hus hh HL5 e1 e2 e3
                go_wp2_with fail
                go_at_call 10
                refine (HAD.out).mono ?_
                rintro e w6 ⟨F, rfl, -, g6⟩
                have hK6 := keep_gr HK5.out.1 g6
                obtain ⟨y1, y2, y3⟩ := keep_cellH hK6 HK5.out.2.1 hs5
                have hfl : hs.getD s false = false := by rw [(HK5.out.2.2.1 s hs5).1, HK5.out.2.2.2.2]
                rw [hfl] at y1
                have G6 : Gr W w6 := Gr.trans G5 g6
                have HK6 := Lib.hid (And.intro hK6 hfl)
                clear hK6 hfl g6 HAD
                go_wp2_with fail
                try simp only [List.append]
                refine Od.wp_region_ord [(0, false), (2, false), (3, false), (1, false), (4, false), (5, false), (6, false)] (by kernel_rfl) (by kernel_rfl) ?_
                intro wa hwa KQ hKQ
                have cwa_0_0 : wa.cell? ⟨(Cw + 1), s, none⟩ = some (.bool false) := cell_gr hwa (by go_simp)
                have zwa_0 : (Cw + 1) < wa.heap.size := World.block_lt_of_cell? _ _ cwa_0_0
                have gwa : Gr w6 wa := Gr.trans (by go_grown) hwa
                skip
                clear hwa
                repeat (first | (refine Od.wpO_skip (by simp only [List.getElem?_toArray, List.getElem?_cons_succ, List.getElem?_cons_zero] <;> rfl) rfl ?_; simp only [Act.put, List.setIfInBounds_toArray, List.set_cons_zero, List.set_cons_succ]) | (refine Od.wpO_pure (by simp only [List.getElem?_toArray, List.getElem?_cons_succ, List.getElem?_cons_zero] <;> rfl) rfl ?_; apply Exists.intro; refine ⟨?_, ?_⟩; (· intro wx gx; obtain ⟨mx, rfl⟩ := spread_of_gr gx; clear gx; all_goals (apply Od.pAt_of_quiet; intro K hK; go_big_quiet_op; first | exact hK _ rfl | (apply Exists.intro; refine ⟨fun _ => ?_, ?_⟩; (· fail); exact hK _ rfl))); try simp only [Act.put, List.setIfInBounds_toArray, List.set_cons_zero, List.set_cons_succ]))
                refine Od.wpO_nil (hKQ _ _ ?_)
                clear hKQ KQ
                have hKa := keep_gr HK6.out.1 gwa
                have fwa := (keep_cellH hKa HK5.out.2.1 hs5).2.1
                have hKb := keep_flag (k := s) false hKa
                rw [flag_same HK6.out.2 (by rw [HK5.out.2.1]; exact hs5)] at hKb
                have HXb : Hid (KeepX W (wa.setCell ⟨Cw + 1, s, none⟩ (.bool false)) B (Cw + 1) Cw) := Lib.hid ⟨C, S, hs, xs, wf, _, _, hKb, HK5.out.2.1, HK5.out.2.2.1, HK5.out.2.2.2.1⟩
                have Gb : Gr W (wa.setCell ⟨Cw + 1, s, none⟩ (.bool false)) := by
                  have := HK6.out.1.offH.2
                  exact (Gr.trans G6 gwa).setCell (p := ⟨Cw + 1, s, none⟩) this _
                clear hKa hKb
                go_wp2_with fail
                go_meet
                exact ⟨HXb, Gb⟩
              | true =>
                have hlt := has_lt hh
                have AD := p_deleteS s hh w5 hK.page
                have HAD := Lib.hid AD
                have HK5 := Lib.hid (And.intro hK (And.intro hlen (And.intro hjj (And.intro hus (And.intro hlt hh)))))
                clear AD hK hlen hjj hus hlt hh HL5 e1 e2 e3
                go_wp2_with fail
                go_at_call 10
                refine (HAD.out).mono ?_
                rintro e w6 ⟨rfl, hp6, hk6⟩
                have hK6 := keep_turn HK5.out.1 hp6 hk6 (Or.inl rfl) G5
                have G6 := kxPg_gr hk6 G5 HK5.out.1.new
                obtain ⟨y1, y2, y3⟩ := keep_cellH hK6 HK5.out.2.1 hs5
                have hfl : hs.getD s false = true := by rw [(HK5.out.2.2.1 s hs5).1, HK5.out.2.2.2.2.2]
                rw [hfl] at y1
                have HK6 := Lib.hid (And.intro hK6 hfl)
                clear hK6 hfl hp6 hk6 HAD
                go_wp2_with fail
                try simp only [List.append]
                refine Od.wp_region_ord [(0, false), (2, false), (3, false), (1, false), (4, false), (5, false), (6, false)] (by kernel_rfl) (by kernel_rfl) ?_
                intro wa hwa KQ hKQ
                have cwa_0_0 : wa.cell? ⟨(Cw + 1), s, none⟩ = some (.bool true) := cell_gr hwa (by go_simp)
                have zwa_0 : (Cw + 1) < wa.heap.size := World.block_lt_of_cell? _ _ cwa_0_0
                have gwa : Gr w6 wa := Gr.trans (by go_grown) hwa
                skip
                clear hwa
                repeat (first | (refine Od.wpO_skip (by simp only [List.getElem?_toArray, List.getElem?_cons_succ, List.getElem?_cons_zero] <;> rfl) rfl ?_; simp only [Act.put, List.setIfInBounds_toArray, List.set_cons_zero, List.set_cons_succ]) | (refine Od.wpO_pure (by simp only [List.getElem?_toArray, List.getElem?_cons_succ, List.getElem?_cons_zero] <;> rfl) rfl ?_; apply Exists.intro; refine ⟨?_, ?_⟩; (· intro wx gx; obtain ⟨mx, rfl⟩ := spread_of_gr gx; clear gx; all_goals (apply Od.pAt_of_quiet; intro K hK; go_big_quiet_op; first | exact hK _ rfl | (apply Exists.intro; refine ⟨fun _ => ?_, ?_⟩; (· fail); exact hK _ rfl))); try simp only [Act.put, List.setIfInBounds_toArray, List.set_cons_zero, List.set_cons_succ]))
                refine Od.wpO_nil (hKQ _ _ ?_)
                clear hKQ KQ
                have hKa := keep_gr HK6.out.1 gwa
                have fwa := (keep_cellH hKa HK5.out.2.1 hs5).2.1
                have hKb := keep_flag (k := s) false hKa
                have HXb : Hid (KeepX W (wa.setCell ⟨Cw + 1, s, none⟩ (.bool false)) B (Cw + 1) Cw) := Lib.hid (keepX_del hKb HK5.out.2.1 HK5.out.2.2.1 hs5 HK5.out.2.2.2.2.1 HK5.out.2.2.2.1)
                have Gb : Gr W (wa.setCell ⟨Cw + 1, s, none⟩ (.bool false)) := by
                  have := HK6.out.1.offH.2
                  exact (Gr.trans G6 gwa).setCell (p := ⟨Cw + 1, s, none⟩) this _
                clear hKa hKb
                go_wp2_with fail
                go_meet
                exact ⟨HXb, Gb⟩
            · have x3 : (kd == 3) = false := by simpa using e3
              clear e1 e2 e3
              go_wp2_with fail
              go_meet
              exact ⟨Lib.hid (by obtain ⟨C, S, hs, xs, wf, h1, h2⟩ := HL5.out; exact ⟨C, S, hs, xs, wf, _, _, h1, h2⟩), G5⟩
      case rest =>
        obtain ⟨HX6, G6⟩ := hcut
        obtain ⟨C, S, hs, xs, wf, vL, L, hK, hlen, hjj, hus⟩ := HX6.out
        obtain ⟨_, _, -, -, -, hS60, -⟩ := id hK.page
        have hup := up_us hS60
        have hsz := pageS_sz hK.page
        have AF := p_freeS wc hK.page
        have HK6 := Lib.hid (And.intro hK (And.intro hlen (And.intro hjj (And.intro hup (And.intro hus hsz)))))
        have HAF := Lib.hid (fun w (g : Gr wc w) => p_freeS w (pageS_gr hK.page g))
        clear hK hlen hjj hus hup hsz HX6 AF hS60 HL5
        go_wp2_with fail
        obtain ⟨wo, rfl⟩ : ∃ x, x = wr := ⟨wr, rfl⟩
        go_loopg [15, 16] 60 (fun g a b wr => ∃ j : Nat, b = .int .i64 j ∧ j ≤ 60 ∧ g = 60 - j ∧ a = .int .i64 (upT S j : Nat) ∧ Gr wc wr)
        case atStart => exact ⟨0, rfl, by omega, by omega, rfl, Below.refl _ _⟩
        case round =>
          obtain ⟨j, rfl, hj60, hgj, rfl, hg6⟩ := hrel
          by_cases hjn : j < 60
          · have t8 : decide ((j : Int) < 60) = true := decide_eq_true (by omega)
            have t9 : (j : Int) < 60 := by omega
            have hKr := keep_gr HK6.out.1 hg6
            obtain ⟨y1, -, -⟩ := keep_cellH hKr HK6.out.2.1 hjn
            rw [(HK6.out.2.2.1 j hjn).1] at y1
            have hwf := (HK6.out.2.2.1 j hjn).2
            have hup1 : upT S (j + 1) = upT S j + (if (S.getD j none).isSome then 4 + szO (S.getD j none) else 0) := rfl
            have hub := up_small HK6.out.2.2.2.2.2 hj60
            have GC : Gr W wr := Gr.trans G6 hg6
            cases hh : S.getD j none with
            | none =>
              rw [hh] at y1 hup1
              have AI := p_get_no (j : Int) (by rw [hasS_nat, hh]; rfl) wr hKr.page
              have HAI := Lib.hid AI
              have HU := Lib.hid hup1
              clear AI hKr hh hwf hup1 hub
              generalize upT S j = uu at HU
              go_wp2_with fail
              go_at_call 11
              refine (HAI.out).mono ?_
              rintro e w7 ⟨F, rfl, -, g7⟩
              have y1' := cell_gr g7 y1
              go_wp2_with fail
              try simp only [List.append]
              refine Od.wp_region_ord [(0, false), (1, false), (2, false), (3, false), (4, false), (5, false), (6, false), (7, false), (8, false), (9, false), (10, false), (11, false), (12, false), (13, false), (14, false), (15, false), (16, false), (17, false), (18, false), (19, false), (20, false), (21, false)] (by kernel_rfl) (by kernel_rfl) ?_
              intro wa hwa KQ hKQ
              have cwa_0_0 : wa.cell? ⟨(Cw + 1), j, none⟩ = some (.bool (none : Sl).isSome) := cell_gr hwa (by go_simp)
              have zwa_0 : (Cw + 1) < wa.heap.size := World.block_lt_of_cell? _ _ cwa_0_0
              have gwa : Gr w7 wa := Gr.trans (by go_grown) hwa
              skip
              clear hwa
              repeat (first | (refine Od.wpO_skip (by simp only [List.getElem?_toArray, List.getElem?_cons_succ, List.getElem?_cons_zero] <;> rfl) rfl ?_; simp only [Act.put, List.setIfInBounds_toArray, List.set_cons_zero, List.set_cons_succ]) | (refine Od.wpO_pure (by simp only [List.getElem?_toArray, List.getElem?_cons_succ, List.getElem?_cons_zero] <;> rfl) rfl ?_; apply Exists.intro; refine ⟨?_, ?_⟩; (· intro wx gx; obtain ⟨mx, rfl⟩ := spread_of_gr gx; clear gx; all_goals (apply Od.pAt_of_quiet; intro K hK; go_big_quiet_op; first | exact hK _ rfl | (apply Exists.intro; refine ⟨fun _ => ?_, ?_⟩; (· fail); exact hK _ rfl))); try simp only [Act.put, List.setIfInBounds_toArray, List.set_cons_zero, List.set_cons_succ]))
              refine Od.wpO_nil (hKQ _ _ ?_)
              clear hKQ KQ
              have G7 : Gr wc wa := Gr.trans hg6 (Gr.trans g7 gwa)
              go_wp2_with fail
              go_roundg (60 - (j + 1))
              case measure => omega
              case rel => exact ⟨j + 1, by go_num, by omega, by omega, by rw [HU.out]; rfl, by first | exact G7 | exact G7.drew⟩
            | some X =>
              rw [hh] at y1 hup1 hwf
              obtain ⟨wa0, wcp, z1, hXl, hRX⟩ := keep_slot hKr hjn hwf
              have AI := p_getS j hh wr hKr.page
              have HAI := Lib.hid AI
              have HU := Lib.hid hup1
              have HRX := Lib.hid (And.intro hRX.1 hXl)
              obtain ⟨ex1, ex2, ex3, ex4⟩ := up_facts hub hXl
              clear AI hKr hh hwf hup1 hub hRX hXl
              generalize upT S j = uu at HU ex1 ex2 ex3 ex4
              go_wp2_with fail
              go_at_call 11
              refine (HAI.out).mono ?_
              rintro e w7 ⟨xad, xc, rfl, o7, g7⟩
              have y1' := cell_gr g7 y1
              have z1' := cell_gr g7 z1
              have HO := Lib.hid (row_own o7)
              have ABy := Lib.hid (fun w (g : Gr w7 w) => c_Bytes w (row_gr HO.out g) (row_gr HRX.out.1 (Gr.trans g7 g)) (by have := HRX.out.2; omega))
              clear o7 HAI z1 y1
              go_wp2_with fail
              try simp only [List.append]
              refine Od.wp_region_ord [(0, false), (1, false), (2, false), (3, false), (4, false), (5, false), (6, false), (7, false), (8, false), (9, false), (10, false), (11, false), (12, false), (13, false), (14, false), (15, false), (16, false), (17, false), (18, true), (19, false), (20, false), (21, false)] (by kernel_rfl) (by kernel_rfl) ?_
              intro wa hwa KQ hKQ
              have cwa_0_0 : wa.cell? ⟨(Cw + 1), j, none⟩ = some (.bool (some X : Sl).isSome) := cell_gr hwa (by go_simp)
              have zwa_0 : (Cw + 1) < wa.heap.size := World.block_lt_of_cell? _ _ cwa_0_0
              have cwa_1_0 : wa.cell? ⟨Cw, j, none⟩ = some (.slice wa0 X.length wcp) := cell_gr hwa (by go_simp)
              have zwa_1 : Cw < wa.heap.size := World.block_lt_of_cell? _ _ cwa_1_0
              have gwa : Gr w7 wa := Gr.trans (by go_grown) hwa
              skip
              clear hwa
              repeat (first | (refine Od.wpO_skip (by simp only [List.getElem?_toArray, List.getElem?_cons_succ, List.getElem?_cons_zero] <;> rfl) rfl ?_; simp only [Act.put, List.setIfInBounds_toArray, List.set_cons_zero, List.set_cons_succ]) | (refine Od.wpO_pure (by simp only [List.getElem?_toArray, List.getElem?_cons_succ, List.getElem?_cons_zero] <;> rfl) rfl ?_; apply Exists.intro; refine ⟨?_, ?_⟩; (· intro wx gx; obtain ⟨mx, rfl⟩ := spread_of_gr gx; clear gx; all_goals (apply Od.pAt_of_quiet; intro K hK; go_big_quiet_op; first | exact hK _ rfl | (apply Exists.intro; refine ⟨fun _ => ?_, ?_⟩; (· fail); exact hK _ rfl))); try simp only [Act.put, List.setIfInBounds_toArray, List.set_cons_zero, List.set_cons_succ]))
              refine Od.wpO_call (by simp only [List.getElem?_toArray, List.getElem?_cons_succ, List.getElem?_cons_zero] <;> rfl) rfl ?_
              intro QS hQS
              go_wp2_with fail
              go_at_call 12
              (with_reducible refine ((ABy.out _ gwa)).mono ?_)
              rintro e wb ⟨rfl, hwb⟩
              go_wp2_with fail
              apply Exists.intro
              refine ⟨?_, hwb, ?_⟩
              · simp only [Act.put, List.setIfInBounds_toArray, List.set_cons_zero, List.set_cons_succ]; rfl
              have cwb_0_0 : wb.cell? ⟨(Cw + 1), j, none⟩ = some (.bool (some X : Sl).isSome) := cell_gr hwb (by go_simp)
              have zwb_0 : (Cw + 1) < wb.heap.size := World.block_lt_of_cell? _ _ cwb_0_0
              have cwb_1_0 : wb.cell? ⟨Cw, j, none⟩ = some (.slice wa0 X.length wcp) := cell_gr hwb (by go_simp)
              have zwb_1 : Cw < wb.heap.size := World.block_lt_of_cell? _ _ cwb_1_0
              have gwb : Gr w7 wb := Gr.trans (by have gg := gwa; have gs := gg.size; go_grown) hwb
              clear gwa zwa_0 cwa_0_0 zwa_1 cwa_1_0
              clear hwb
              try simp only [Act.put, List.setIfInBounds_toArray, List.set_cons_zero, List.set_cons_succ]
              repeat (first | (refine Od.wpO_skip (by simp only [List.getElem?_toArray, List.getElem?_cons_succ, List.getElem?_cons_zero] <;> rfl) rfl ?_; simp only [Act.put, List.setIfInBounds_toArray, List.set_cons_zero, List.set_cons_succ]) | (refine Od.wpO_pure (by simp only [List.getElem?_toArray, List.getElem?_cons_succ, List.getElem?_cons_zero] <;> rfl) rfl ?_; apply Exists.intro; refine ⟨?_, ?_⟩; (· intro wx gx; obtain ⟨mx, rfl⟩ := spread_of_gr gx; clear gx; all_goals (apply Od.pAt_of_quiet; intro K hK; go_big_quiet_op; first | exact hK _ rfl | (apply Exists.intro; refine ⟨fun _ => ?_, ?_⟩; (· fail); exact hK _ rfl))); try simp only [Act.put, List.setIfInBounds_toArray, List.set_cons_zero, List.set_cons_succ]))
              refine Od.wpO_nil (hKQ _ _ ?_)
              clear hKQ KQ
              have G7 : Gr wc wb := Gr.trans hg6 (Gr.trans g7 gwb)
              go_wp2_with fail
              go_roundg (60 - (j + 1))
              case measure => omega
              case rel => exact ⟨j + 1, by go_num, by omega, by omega, by rw [HU.out]; exact up_next _ _, by first | exact G7 | exact G7.drew⟩
          · obtain rfl : j = 60 := by omega
            have t8 : decide ((60 : Int) < 60) = false := by decide
            have hs1 := HK6.out.2.2.2.1
            have hs2 := HK6.out.2.2.2.2.1
            obtain ⟨us, hus⟩ : ∃ x, x = usS S := ⟨_, rfl⟩
            rw [← hus] at HAF hs1 hs2
            generalize upT S 60 = up at hs1
            obtain ⟨x1, x2, x3, x4, x5, x6⟩ := free_facts hs1 hs2
            have G7 : Gr W wr := Gr.trans G6 hg6
            go_wp2_with fail
            go_at_call 13
            refine (HAF.out _ hg6).mono ?_
            rintro e w7 ⟨rfl, g7⟩
            have hg7 := Gr.trans hg6 g7
            go_wp2_with fail
            go_at_call 13
            refine (HAF.out _ hg7).mono ?_
            rintro e w8 ⟨rfl, g8⟩
            have hg8 := Gr.trans hg7 g8
            have HX8 : Hid (KeepX W w8 B (Cw + 1) Cw) := Lib.hid ⟨C, S, hs, xs, wf, vL, L, keep_gr HK6.out.1 hg8, HK6.out.2.1, HK6.out.2.2.1, HK6.out.2.2.2.2.1⟩
            have G8 : Gr W w8 := Gr.trans G6 hg8
            go_wp2_with fail
            go_roundg (n - (i + 1))
            case measure => omega
            case rel => exact ⟨i + 1, by go_num, by omega, by omega, HX8, G8⟩
    · obtain rfl : i = n := by omega
      have ti : decide ((i : Int) < (i : Int)) = false := decide_eq_false (by omega)
      have ti3 : ¬ (i : Int) < (i : Int) := by omega
      go_wp2_with fail
      go_at_call 4
      refine (p11_awake _).mono ?_
      rintro e w3 ⟨rfl, g3⟩
      go_wp2_with fail
      go_ret
      exact ⟨rfl, Gr.trans hg g3⟩
set_option maxHeartbeats 1000000 in
set_option maxRecDepth 100000 in
theorem walk_SlotsKeep (W : World) (v : Value) (n : Nat) (A E D : Nat → Int) (h : Steps3 W v n A E D) : Calls Try.prog 3 #[v] W fun e w' => e = .returned (.bool true) ∧ Gr W w' := by
  by_cases hn : n ≤ 150
  · exact keeps_core W v n A E D h hn
  · obtain ⟨ad0, cap0, B0, off0, rfl, -, -, -, -, -⟩ := h
    have t1 : decide ((150 : Int) < (n : Int)) = true := decide_eq_true (by omega)
    go_enter Try.func3, Try.ntmps3
    go_wp2_with fail
    go_at_call 4
    refine (p11_awake _).mono ?_
    rintro e w3 ⟨rfl, g3⟩
    go_wp2_with fail
    go_ret
    exact ⟨rfl, Gr.trans (by go_grown) g3⟩
end Go.Proofs.Ytilijbplfobneaa
