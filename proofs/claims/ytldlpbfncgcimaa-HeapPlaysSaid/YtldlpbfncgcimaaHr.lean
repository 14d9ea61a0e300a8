/- HeapTurns: the walk -/
import Derived.Test.YtldlpbfncgcimaaHq
namespace Go.Proofs.Ytldlpbfncgcimaa
set_option linter.unusedVariables false
open Go.ChangeShapes Go.WideShapes Go.ChangeAt Go.RowKit

set_option maxHeartbeats 8000000 in
set_option maxRecDepth 100000 in
theorem turns_core (ad : Option Addr) (b off n cap : Nat) (F : Nat → Int) (hA : 0 < n → ad = some ⟨b, off, none⟩) (hn : n ≤ 100) (hc : n ≤ cap) (W : World) (hF : ∀ k, k < n → W.cell? ⟨b, off + k, none⟩ = some (.int .i64 (F k))) :
    Calls Try.prog 9 #[.slice ad n cap] W fun e w' => e = .returned (.bool true) ∧ Gr W w' := by
  have HF := Lib.hid hF
  have HA := Lib.hid hA
  have t0 : decide ((100 : Int) < (n : Int)) = false := decide_eq_false (by omega)
  have t00 : decide (100 < n) = false := decide_eq_false (by omega)
  have AN := Lib.hid (fun w => c_hNew w)
  have hmf : ∀ (fn : Fn) (first cap : Array Value) (w : World), (Instr.makeFunc fn first cap).run Try.prog w = .ok (.func fn first cap) w := fun _ _ _ _ => rfl
  clear hF hA
  go_enter Try.func9, Try.ntmps9
  go_wp2_with fail
  generalize hhw0 : W.alloc (.cells #[.slice ad n cap] 66) = w0
  have cw0_0_0 : w0.cell? ⟨W.heap.size, 0, none⟩ = some (.slice ad n cap) := by subst hhw0; go_simp
  have zw0_0 : W.heap.size < w0.heap.size := World.block_lt_of_cell? _ _ cw0_0_0
  have gw0 : Gr W w0 := by subst hhw0; go_grown
  clear hhw0
  go_at_call 21
  (with_reducible refine (AN.out _).mono ?_)
  rintro e w1 ⟨rfl, hA1, g1⟩
  have HA1 := Lib.hid hA1
  have hpa := (heapAt_lt hA1).1
  have G1 := Lib.hid g1
  clear hA1 g1
  go_wp2_with fail
  go_at_call 21
  (with_reducible refine (AN.out _).mono ?_)
  rintro e w2 ⟨rfl, hB1, g2⟩
  have HB1 := Lib.hid (heapAt_base hB1 G1.out.size)
  have HA2 := Lib.hid (heapAt_gr HA1.out g2)
  have G2 := Lib.hid (Gr.trans G1.out g2)
  have hs0 : Sep w0.heap.size (.slice none 0 0) w1.heap.size (.slice none 0 0) := ⟨by omega, by simp [Value.ownBlock], by simp [Value.ownBlock], fun k h => by cases h⟩
  have HS0 := Lib.hid hs0
  have B1 := Lib.hid G1.out.size
  have c1 : w1.cell? ⟨W.heap.size, 0, none⟩ = some (.slice ad n cap) := cell_gr G1.out cw0_0_0
  have c2 : w2.cell? ⟨W.heap.size, 0, none⟩ = some (.slice ad n cap) := cell_gr G2.out cw0_0_0
  obtain ⟨pa, epa⟩ : ∃ pa, pa = w0.heap.size := ⟨_, rfl⟩
  obtain ⟨pb, epb⟩ : ∃ pb, pb = w1.heap.size := ⟨_, rfl⟩
  clear hB1 g2 HA1 G1 hs0
  go_wp2_with fail
  go_loopg [6] n (fun k x wr => ∃ (i : Nat) (va vb : Value) (La Lb : List Nu), x = .int .i64 i ∧ i ≤ n ∧ k = n - i ∧ HeapAt wr w0.heap.size w0.heap.size va La i ∧ HeapAt wr w0.heap.size w1.heap.size vb Lb i ∧ Hp.hp ltN La ∧ Hp.hp ltN Lb ∧ La.Perm (ordL (entT F) i) ∧ Lb.Perm (ordL (fun t => entT F (n - 1 - t)) i) ∧ Sep w0.heap.size va w1.heap.size vb ∧ Gr w0 wr)
  case atStart => exact ⟨0, _, _, _, _, rfl, Nat.zero_le _, by omega, HA2.out, HB1.out, Hp.hp_nil, Hp.hp_nil, List.Perm.refl _, List.Perm.refl _, HS0.out, G2.out⟩
  case round =>
    obtain ⟨i, va, vb, La, Lb, rfl, hi, hk, h1, h2, h3, h4, h5, h6, h7, h8⟩ := hrel
    have HX := Lib.hid (And.intro h1 (And.intro h2 (And.intro h3 (And.intro h4 (And.intro h5 (And.intro h6 (And.intro h7 h8)))))))
    have c3 : wr.cell? ⟨W.heap.size, 0, none⟩ = some (.slice ad n cap) := cell_gr h8 cw0_0_0
    clear h1 h2 h3 h4 h5 h6 h7 h8 c1 c2
    by_cases h : i < n
    · have ti : decide ((i : Int) < (n : Int)) = true := decide_eq_true (by omega)
      have ti2 : decide (i < n) = true := decide_eq_true h
      obtain rfl := HA.out (by omega)
      obtain ⟨r, er⟩ : ∃ r, r = n - 1 - i := ⟨_, rfl⟩
      obtain ⟨nm, enm⟩ : ∃ nm, nm = n - 1 := ⟨_, rfl⟩
      have hr : r < n := by omega
      have r1 : (n : Int) - 1 = (nm : Int) := by omega
      have r2 : (nm : Int) - (i : Int) = (r : Int) := by omega
      have hm : n - (i + 1) < gk := by omega
      have hi1 : i + 1 ≤ n := h
      have hbW : b < W.heap.size := World.block_lt_of_cell? _ _ (HF.out i h)
      have hqW : ∀ w, Gr w0 w → W.heap.size < w.heap.size := fun w g => Nat.lt_of_lt_of_le zw0_0 g.size
      have A1 := Lib.hid (fun w (g : Gr w0 w) => c_entry F W.heap.size b off n cap i h hn w (cell_gr g cw0_0_0) (cell_gr (Gr.trans gw0 g) (HF.out i h)) (hqW w g) (Nat.lt_of_lt_of_le hbW (Gr.trans gw0 g).size))
      have A2 := Lib.hid (fun w (g : Gr w0 w) => c_entry F W.heap.size b off n cap r hr hn w (cell_gr g cw0_0_0) (cell_gr (Gr.trans gw0 g) (HF.out r hr)) (hqW w g) (Nat.lt_of_lt_of_le hbW (Gr.trans gw0 g).size))
      obtain ⟨e1, ee1⟩ : ∃ e, e = entT F i := ⟨_, rfl⟩
      obtain ⟨e2, ee2⟩ : ∃ e, e = entT F r := ⟨_, rfl⟩
      have ok1 : e1.ok := by rw [ee1]; exact entT_ok F (by omega)
      have ok2 : e2.ok := by rw [ee2]; exact entT_ok F (by omega)
      rw [← ee1] at A1
      rw [← ee2] at A2
      have hla : La.length = i := by have := HX.out.2.2.2.2.1.length_eq; rw [ordL_len] at this; exact this
      have hlb : Lb.length = i := by have := HX.out.2.2.2.2.2.1.length_eq; rw [ordL_len] at this; exact this
      have oka : ∀ y ∈ La, y.e.ok := fun y hy => ordL_ok (n := n) (fun k hk => entT_ok F (by omega)) hi y (HX.out.2.2.2.2.1.mem_iff.1 hy)
      have okb : ∀ y ∈ Lb, y.e.ok := fun y hy => ordL_ok (n := n) (fun k hk => entT_ok F (by omega)) hi y (HX.out.2.2.2.2.2.1.mem_iff.1 hy)
      have A3 := Lib.hid (fun w (g : Gr wr w) => c_Push La e1 w0.heap.size w0.heap.size i va (by omega) (by omega) w (Nat.le_trans HX.out.2.2.2.2.2.2.2.size g.size) (heapAt_gr HX.out.1 g) oka ok1 HX.out.2.2.1)
      have A4 := Lib.hid (fun w (hs : w0.heap.size ≤ w.heap.size) (hB : HeapAt w w0.heap.size w1.heap.size vb Lb i) => c_Push Lb e2 w0.heap.size w1.heap.size i vb (by omega) (by omega) w hs hB okb ok2 HX.out.2.2.2.1)
      have HE := Lib.hid (And.intro ee1 (And.intro ee2 (And.intro er enm)))
      clear ee1 ee2 er enm ok1 ok2 oka okb hla hlb hqW hbW
      go_wp2_with fail
      go_at_call 32
      (with_reducible refine (A1.out _ HX.out.2.2.2.2.2.2.2).mono ?_)
      rintro e w3 ⟨rfl, g3⟩
      have G3 := Lib.hid g3
      clear g3
      go_wp2_with fail
      go_at_call 22
      (with_reducible refine (A3.out _ G3.out).mono ?_)
      rintro e w4 ⟨rfl, va', Ma, m1, m2, m3, m4⟩
      have hB4 := two (heapAt_gr HX.out.2.1 G3.out) HX.out.2.2.2.2.2.2.1 m2
      have G4 := Lib.hid (m2.gr (Gr.trans HX.out.2.2.2.2.2.2.2 G3.out) (Nat.le_refl _) (fun k h => ((heapAt_lt HX.out.1).2 k h).1))
      have HM := Lib.hid (And.intro m1 (And.intro m3 m4))
      have HB4 := Lib.hid hB4
      have c4 : w4.cell? ⟨W.heap.size, 0, none⟩ = some (.slice (some ⟨b, off, none⟩) n cap) := cell_gr G4.out cw0_0_0
      clear m1 m2 m3 m4 hB4 c3
      go_wp2_with fail
      go_at_call 32
      (with_reducible refine (A2.out _ G4.out).mono ?_)
      rintro e w5 ⟨rfl, g5⟩
      have G5 := Lib.hid g5
      clear g5 c4
      go_wp2_with fail
      go_at_call 22
      (with_reducible refine (A4.out _ (Gr.trans G4.out G5.out).size (heapAt_gr HB4.out.1 G5.out)).mono ?_)
      rintro e w6 ⟨rfl, vb', Mb, n1, n2, n3, n4⟩
      have hA6 := two (heapAt_gr HM.out.1 G5.out) HB4.out.2.symm n2
      have G6 := Lib.hid (n2.gr (Gr.trans G4.out G5.out) B1.out (fun k h => ((heapAt_lt HB4.out.1).2 k h).1))
      have HN := Lib.hid (And.intro n1 (And.intro n3 (And.intro n4 hA6)))
      clear n1 n2 n3 n4 hA6
      go_wp2_with fail
      go_roundg (n - (i + 1))
      case measure => exact hm
      case rel =>
        refine ⟨i + 1, va', vb', Ma, Mb, by go_num, hi1, rfl, HN.out.2.2.2.1, HN.out.1, HM.out.2.2, HN.out.2.2.1, ?_, ?_, HN.out.2.2.2.2.symm, G6.out⟩
        · rw [ordL_succ, ← HE.out.1]; exact HM.out.2.1.trans (List.Perm.append_right _ HX.out.2.2.2.2.1)
        · rw [ordL_succ]
          have : entT F (n - 1 - i) = e2 := by rw [HE.out.2.1, HE.out.2.2.1]
          rw [this]
          exact HN.out.2.1.trans (List.Perm.append_right _ HX.out.2.2.2.2.2.1)
    · obtain rfl : i = n := by omega
      have ti : decide ((i : Int) < (i : Int)) = false := decide_eq_false (by omega)
      have ti2 : decide (i < i) = false := decide_eq_false (by omega)
      go_wp2_with fail
      go_loopg [7] i (fun k x wx => ∃ (j : Nat) (va vb : Value) (La Lb : List Nu), x = .int .i64 j ∧ j ≤ i ∧ k = i - j ∧ HeapAt wx w0.heap.size w0.heap.size va La i ∧ HeapAt wx w0.heap.size w1.heap.size vb Lb i ∧ Hp.hp ltN La ∧ Hp.hp ltN Lb ∧ La.length = i - j ∧ (La.map Nu.e).Perm (Lb.map Nu.e) ∧ (∀ z ∈ La, ∃ t, t < i ∧ z.e = entT F t) ∧ Sep w0.heap.size va w1.heap.size vb ∧ Gr w0 wx)
      case atStart =>
        obtain ⟨h1, h2, h3, h4, h5, h6, h7, h8⟩ := HX.out
        refine ⟨0, va, vb, La, Lb, rfl, Nat.zero_le _, by omega, h1, h2, h3, h4, by have := h5.length_eq; rw [ordL_len] at this; omega, ((h5.map Nu.e).trans (turned (entT F) i)).trans (h6.map Nu.e).symm, fun z hz => ?_, h7, h8⟩
        obtain ⟨t, ht, rfl⟩ := List.mem_map.1 (h5.mem_iff.1 hz)
        exact ⟨t, List.mem_range.1 ht, rfl⟩
      case round =>
        obtain ⟨j, ua, ub, Ka, Kb, rfl, hj, hkj, h1, h2, h3, h4, h5, h6, h7, h8, h9⟩ := hrel
        have HY := Lib.hid (And.intro h1 (And.intro h2 (And.intro h3 (And.intro h4 (And.intro h5 (And.intro h6 (And.intro h7 (And.intro h8 h9))))))))
        have c5 : wr.cell? ⟨W.heap.size, 0, none⟩ = some (.slice ad i cap) := cell_gr h9 cw0_0_0
        clear h1 h2 h3 h4 h6 h7 h8 h9 c3
        have hkl : Kb.length = i - j := by have := HY.out.2.2.2.2.2.1.length_eq; simp at this; omega
        by_cases hji : j < i
        · have tj : decide ((j : Int) < (i : Int)) = true := decide_eq_true (by omega)
          have tj2 : decide (j < i) = true := decide_eq_true hji
          obtain ⟨x0, Ka0, eKa⟩ : ∃ x M0, Ka = x :: M0 := by
            cases Ka with
            | nil => simp at h5; omega
            | cons x M0 => exact ⟨x, M0, rfl⟩
          obtain ⟨y0, Kb0, eKb⟩ : ∃ x M0, Kb = x :: M0 := by
            cases Kb with
            | nil => simp at hkl; omega
            | cons x M0 => exact ⟨x, M0, rfl⟩
          have oka : ∀ y ∈ Ka, y.e.ok := fun y hy => by
            obtain ⟨t, ht, et⟩ := HY.out.2.2.2.2.2.2.1 y hy
            rw [et]; exact entT_ok F (by omega)
          have okb : ∀ y ∈ Kb, y.e.ok := fun y hy => by
            obtain ⟨z, hz, ez⟩ := List.mem_map.1 (HY.out.2.2.2.2.2.1.mem_iff.2 (List.mem_map_of_mem (f := Nu.e) hy))
            rw [← ez]; exact oka z hz
          have A1 := Lib.hid (c_hPop x0 Ka Ka0 eKa w0.heap.size w0.heap.size i ua (by omega) wr HY.out.2.2.2.2.2.2.2.2.size HY.out.1 oka HY.out.2.2.1)
          have A2 := Lib.hid (fun w (hs : w0.heap.size ≤ w.heap.size) (hB : HeapAt w w0.heap.size w1.heap.size ub Kb i) => c_hPop y0 Kb Kb0 eKb w0.heap.size w1.heap.size i ub (by omega) w hs hB okb HY.out.2.2.2.1)
          have hmj : i - (j + 1) < gk := by omega
          have hj1 : j + 1 ≤ i := hji
          have HKL := Lib.hid h5
          clear eKa eKb oka okb h5 hkl
          go_wp2_with fail
          go_at_call 24
          (with_reducible refine A1.out.mono ?_)
          rintro e w3 ⟨x, va', Ma, rfl, m1, m2, m3, m4, m5⟩
          have hB3 := two HY.out.2.1 HY.out.2.2.2.2.2.2.2.1 m2
          have G3 := Lib.hid (m2.gr HY.out.2.2.2.2.2.2.2.2 (Nat.le_refl _) (fun k h => ((heapAt_lt HY.out.1).2 k h).1))
          have HM := Lib.hid (And.intro m1 (And.intro m3 (And.intro m4 m5)))
          have HB3 := Lib.hid hB3
          clear m1 m2 m3 m4 m5 hB3
          go_upto_region 17 with fail
          obtain ⟨w4, hw4⟩ : ∃ w4, w3.alloc (.cells #[.int .i64 x.e.id, .int .u64 x.e.hi, .int .u64 x.e.lo, .int .u64 x.e.den, .bool x.e.item, .int .i64 x.e.node] 50) = w4 := ⟨_, rfl⟩
          rw [hw4]
          have g4 : Gr w3 w4 := by subst hw4; exact (Below.refl _ _).alloc (Nat.le_refl _) _
          have B8 : w4.heap[w3.heap.size]? = some (.cells #[.int .i64 x.e.id, .int .u64 x.e.hi, .int .u64 x.e.lo, .int .u64 x.e.den, .bool x.e.item, .int .i64 x.e.node] 50 (0, 0)) := by subst hw4; exact heap_alloc_new w3 _
          have HB8 := Lib.hid B8
          have G4 := Lib.hid g4
          clear hw4 B8 g4
          go_wp2_with fail
          go_at_call 24
          (with_reducible refine (A2.out _ (Gr.trans G3.out G4.out).size (heapAt_gr HB3.out.1 G4.out)).mono ?_)
          rintro e w5 ⟨y, vb', Mb, he, n1, n2, n3, n4, n5⟩
          obtain ⟨hxy, hpm⟩ := same_first HY.out.2.2.2.2.2.1 HY.out.2.2.2.2.2.2.1 HM.out.2.1 n3 HM.out.2.2.1 n4
          rw [← hxy] at he
          subst he
          have hA5 := two (heapAt_gr HM.out.1 G4.out) HB3.out.2.symm n2
          have q1 := heapAt_lt (heapAt_gr HM.out.1 G4.out)
          have q2 := heapAt_lt HB3.out.1
          have b8 := n2.block HB8.out (by omega) (fun e => by have := (q2.2 _ e.symm).2; omega)
          obtain ⟨s0, s1, s2, s3, s4, s5, sf⟩ := row6 b8
          have z8 := (Array.getElem?_eq_some_iff.1 b8).1
          have G5 := Lib.hid (n2.gr (Gr.trans G3.out G4.out) B1.out (fun k h => (q2.2 k h).1))
          have hne := neqEnt x.e
          have hlen : Ma.length = i - (j + 1) := by have := HM.out.2.1.length_eq; have := HKL.out; simp at *; omega
          have HN := Lib.hid (And.intro n1 (And.intro n5 (And.intro hpm (And.intro hA5 (And.intro hlen (fun z hz => HY.out.2.2.2.2.2.2.1 z (HM.out.2.1.mem_iff.1 (List.mem_cons_of_mem _ hz))))))))
          clear n1 n2 n3 n4 n5 hxy hpm hA5 q1 q2 b8 hlen
          go_wp2_with fail
          go_roundg (i - (j + 1))
          case measure => exact hmj
          case rel => exact ⟨j + 1, va', vb', Ma, Mb, by go_num, hj1, rfl, heapAt_gr HN.out.2.2.2.1.1 ((Below.refl _ _).alloc (Nat.le_refl _) _), heapAt_gr HN.out.1 ((Below.refl _ _).alloc (Nat.le_refl _) _), HM.out.2.2.2, HN.out.2.1, HN.out.2.2.2.2.1, HN.out.2.2.1, HN.out.2.2.2.2.2, HN.out.2.2.2.1.2.symm, Gr.trans G5.out ((Below.refl _ _).alloc (Nat.le_refl _) _)⟩
        · obtain rfl : j = i := by omega
          have tj : decide ((j : Int) < (j : Int)) = false := decide_eq_false (by omega)
          have tj2 : decide (j < j) = false := decide_eq_false (by omega)
          obtain rfl : Ka = [] := List.eq_nil_of_length_eq_zero (by omega)
          obtain rfl : Kb = [] := List.eq_nil_of_length_eq_zero (by omega)
          have A3 : ∀ w, Gr wr w → Calls Try.prog 29 #[.pointer (some ⟨w0.heap.size, 0, none⟩)] w fun e w' => e = .returned (.int .i64 0) ∧ Gr w w' := fun w g => c_hLen w (heapAt_gr HY.out.1 g)
          have A4 : ∀ w, Gr wr w → Calls Try.prog 29 #[.pointer (some ⟨w1.heap.size, 0, none⟩)] w fun e w' => e = .returned (.int .i64 0) ∧ Gr w w' := fun w g => c_hLen w (heapAt_gr HY.out.2.1 g)
          have A5 := fun w => p15_awake w
          have H3 := Lib.hid A3
          have H4 := Lib.hid A4
          have H5 := Lib.hid A5
          clear A3 A4 A5
          go_wp2_with fail
          go_at_call 29
          (with_reducible refine (H3.out _ (Below.refl _ _)).mono ?_)
          rintro e w3 ⟨rfl, g3⟩
          have G3 := Lib.hid g3
          clear g3
          go_wp2_with fail
          go_at_call 29
          (with_reducible refine (H4.out _ G3.out).mono ?_)
          rintro e w4 ⟨rfl, g4⟩
          have G4 := Lib.hid (Gr.trans G3.out g4)
          clear g4
          go_wp2_with fail
          go_at_call 20
          (with_reducible refine (H5.out _).mono ?_)
          rintro e w6 ⟨rfl, g6⟩
          go_wp2_with fail
          go_ret
          exact ⟨rfl, Gr.trans gw0 (Gr.trans HY.out.2.2.2.2.2.2.2.2 (Gr.trans G4.out g6))⟩
set_option maxHeartbeats 2000000 in
theorem walk_HeapTurns (W : World) (ad : Option Addr) (b off n cap : Nat) (F : Nat → Int) (B0 : n ≤ cap ∧ (cap : Int) ≤ 9223372036854775807 ∧ (0 < n → ad = some ⟨b, off, none⟩) ∧ ∀ k, k < n → W.cell? ⟨b, off + k, none⟩ = some (.int .i64 (F k))) :
    Calls Try.prog 9 #[.slice ad n cap] W fun e w' => e = .returned (.bool true) ∧ Gr W w' := by
  by_cases h : n ≤ 100
  · exact turns_core ad b off n cap F B0.2.2.1 h B0.1 W B0.2.2.2
  · have t0 : decide ((100 : Int) < (n : Int)) = true := decide_eq_true (by omega)
    have t00 : decide (100 < n) = true := decide_eq_true (by omega)
    clear B0
    go_enter Try.func9, Try.ntmps9
    go_wp2_with fail
    go_at_call 20
    (with_reducible refine (p15_awake _).mono ?_)
    rintro e w6 ⟨rfl, g6⟩
    go_wp2_with fail
    go_ret
    exact ⟨rfl, Gr.trans (by go_grown) g6⟩
end Go.Proofs.Ytldlpbfncgcimaa
