/- FrameAsks -/
import Derived.Test.YtmcbanplpgooeaaDoorFy
import Derived.Test.YtmcbanplpgooeaaDoorFu
namespace Go.Proofs.YtmcbanplpgooeaaDoor
set_option linter.unusedVariables false
open Go.ChangeShapes Go.WideShapes Go.ChangeAt Go.RowKit

def RScanTo (W : World) (L : List UInt8) (e : Ending) (w' : World) : Prop :=
  ∃ q, e = .returned (.tuple #[q, .int .i64 (scEnd L : Nat), .int .i64 (scCode L : Nat)]) ∧ OwnRws w' W.heap.size q (scRows L) ∧ Gr W w'
set_option maxHeartbeats 8000000 in
set_option maxRecDepth 100000 in
theorem c_rScan {L : List UInt8} {v : Value} (W : World) (h : Row W v L) (hl : L.length ≤ 1000000) :
    Calls Tryd.prog 72 #[v] W (RScanTo W L) := by
  obtain ⟨i0, hi0, hz0, hz1, hz2⟩ := info_parts (P := Tryd.prog) (e := 79) (z := .slice none 0 0) (size := 1) (bytes := 24) (by kernel_rfl)
  have HI := Lib.hid (And.intro hi0 (And.intro hz0 (And.intro hz1 hz2)))
  have HR := Lib.hid h
  obtain ⟨ad, cap, B, off, rfl, q1, q2, q3, q4⟩ := h
  obtain ⟨n, en⟩ : ∃ n, n = L.length := ⟨_, rfl⟩
  rw [← en] at HR q1 hl ⊢
  have EN := Lib.hid en
  clear hi0 hz0 hz1 hz2 q3 q4 en
  go_enter Tryd.func72, Tryd.ntmps72
  go_wp2_with fail
  go_loopg [5, 6] n (fun k x y wr => ∃ (at_ : Nat) (rows : List (List UInt8)), y = .int .i64 at_ ∧ at_ ≤ n ∧ k = n - at_ ∧ scRows L = rows ++ scRows (L.drop at_) ∧ scEnd L = at_ + scEnd (L.drop at_) ∧ scCode L = scCode (L.drop at_) ∧ OwnRws wr W.heap.size x rows ∧ rows.length ≤ at_ ∧ Gr W wr)
  case atStart => exact ⟨0, [], rfl, Nat.zero_le _, by omega, rfl, by rw [Nat.zero_add]; rfl, rfl, ownRws_nil _ _, Nat.le_refl _, Below.refl _ _⟩
  case round =>
    obtain ⟨at_, rows, rfl, ha, hk, e1, e2, e3, hO, hrl, hg⟩ := hrel
    obtain ⟨R, eR⟩ : ∃ R, R = L.drop at_ := ⟨_, rfl⟩
    have hRl : R.length = n - at_ := by rw [eR, List.length_drop, EN.out]
    rw [← eR] at e1 e2 e3
    by_cases c1 : at_ < n
    · have t1 : decide ((at_ : Int) < (n : Int)) = true := decide_eq_true (by omega)
      have t2 : decide (at_ < n) = true := decide_eq_true c1
      have t3 : (at_ : Int) < (n : Int) := by omega
      obtain ⟨v1, ks, R1⟩ := row_from at_ (by rw [← EN.out]; exact ha) (row_gr HR.out hg)
      rw [← eR] at R1
      obtain ⟨va, vn, vc, rfl⟩ : ∃ a n c, v1 = .slice a n c := by obtain ⟨a, c, b, o, e, -⟩ := R1; exact ⟨_, _, _, e⟩
      have H1 := Lib.hid (fun w (g : Gr wr w) => c_rNext w (row_gr R1 g) (by omega))
      have hdr : nx R = 0 → L.drop (at_ + nxLen R) = R.drop (nxLen R) := fun _ => by rw [eR, List.drop_drop]
      have HE := Lib.hid (And.intro e1 (And.intro e2 (And.intro e3 (And.intro hRl hdr))))
      have HO := Lib.hid hO
      clear e1 e2 e3 eR hRl hO hdr R1
      go_wp2_with fail
      go_at_call 70
      (with_reducible refine (H1.out _ (by go_grown)).mono ?_)
      rintro e w1 ⟨q, rfl, own1, g1⟩
      obtain ⟨qa, qn, qc, rfl⟩ := own_slice own1
      have G1 := Gr.trans hg g1
      by_cases c0 : nx R = 0
      · obtain ⟨s1, s2, s3⟩ := sc_ok c0
        have z1 := nx_zero c0
        have z2 := nxLen_ok c0
        have z3 := HE.out.2.2.2.1
        obtain ⟨m, em⟩ : ∃ m, m = nxLen R := ⟨_, rfl⟩
        rw [← em] at s1 s2 s3 z2 ⊢
        have hm1 : 8 ≤ m := by omega
        have hm2 : at_ + m ≤ n := by omega
        have f1 : scRows L = (rows ++ [nxRow R]) ++ scRows (L.drop (at_ + m)) := by rw [HE.out.1, s1, em, HE.out.2.2.2.2 c0, List.append_assoc]; rfl
        have f2 : scEnd L = (at_ + m) + scEnd (L.drop (at_ + m)) := by rw [HE.out.2.1, s2, em, HE.out.2.2.2.2 c0]; omega
        have f3 : scCode L = scCode (L.drop (at_ + m)) := by rw [HE.out.2.2.1, s3, em, HE.out.2.2.2.2 c0]
        have HN := Lib.hid (And.intro f1 (And.intro f2 f3))
        have hO1 := ownRws_gr HO.out g1
        obtain ⟨vs, hvs, hel⟩ := hO1
        have hqd : ∀ k, (Value.slice qa qn qc).ownBlock = some k → u5.ownBlock ≠ some k := fun k hk hk' => by
          have h1 := own_row own1 k hk
          obtain ⟨vs0, hvs0, -⟩ := HO.out
          rcases hvs0.2 with ⟨rfl, -⟩ | ⟨g, cap, cur, rfl, hb, hg', -⟩
          · cases hk'
          · simp [Value.ownBlock] at hk'
            have := (Array.getElem?_eq_some_iff.1 hg').1
            omega
        have hq2 : Own w1 W.heap.size (.slice qa qn qc) (nxRow R) := own_base own1 hg.size
        have HV := Lib.hid (And.intro hvs (And.intro hel (And.intro hq2 hqd)))
        have hs1 : ((at_ : Int) + (m : Int)) ≤ 1000000 := by omega
        have hm3 : (m : Int) ≤ 1000000 := by omega
        have ha3 : (at_ : Int) ≤ 1000000 := by omega
        have x0 : (((nx R : Nat) : Int) != 0) = false := by rw [c0]; rfl
        have hmm : n - (at_ + m) < gk := by omega
        rw [c0]
        clear s1 s2 s3 z1 z2 z3 f1 f2 f3 em hvs hel own1 hqd hq2 hk x0 c0
        go_wp2_with (first | (at_builtin; (refine wpList_append_own2 _ rfl (.tmp 27) (.tmp 29) 108 rfl W.heap.size 79 i0 (.slice none 0 0) 1 24 Tryd.underlying108 HI.out.1 HI.out.2.1 HI.out.2.2.1 HI.out.2.2.2 rfl (by decide) u5 rows.length vs rfl (World.ownsRow.alloc HV.out.1 _) ⟨w1.heap.size, 0, none⟩ 1 1 [.slice qa qn qc] rfl rfl (cell_one_new _ _ _) (by intro u hu; (simp at hu); subst hu; exact (own_one HV.out.2.2.1)) (by unfold maxLen; omega) (by omega) (by have := G1.size; simp; omega) ?_); intro v2 w2 own2 gr2))
        have GA : Gr w1 (w1.alloc (.cells #[.slice qa qn qc] 79)) := by go_grown
        have O2 : OwnRws w2 W.heap.size v2 (rows ++ [nxRow R]) := rws_next (World.ownsRow.alloc HV.out.1 _) own2 gr2 (fun j hj => by
          obtain ⟨x, e, o, d⟩ := HV.out.2.1 j hj
          exact ⟨x, e, own_gr' o GA, d⟩) (own_gr' HV.out.2.2.1 GA) HV.out.2.2.2
        have hb0 : ∀ k, u5.ownBlock = some k → W.heap.size ≤ k := fun k hk => anyown_lt' HV.out.1 hk
        have G2 : Gr W w2 := gr2.gr (Gr.trans G1 GA) hb0
        have HO2 := Lib.hid O2
        clear O2 own2 gr2 hb0 GA
        go_wp2_with fail
        go_roundg (n - (at_ + m))
        case measure => exact hmm
        case rel => exact ⟨at_ + m, rows ++ [nxRow R], by go_num, hm2, rfl, HN.out.1, HN.out.2.1, HN.out.2.2, HO2.out, by simp; omega, G2⟩
      · obtain ⟨s1, s2, s3⟩ := sc_no c0
        have hO1 := ownRws_gr HO.out g1
        have hR0 : R.length ≠ 0 := by rw [HE.out.2.2.2.1]; omega
        have hfin : scRows L = rows ∧ scEnd L = at_ ∧ scCode L = nx R := by
          refine ⟨by rw [HE.out.1, s1, List.append_nil], by rw [HE.out.2.1, s2]; rfl, by rw [HE.out.2.2.1, s3, if_neg hR0]⟩
        have HN := Lib.hid (And.intro hfin hO1)
        obtain ⟨kx, ekx⟩ : ∃ k, k = nx R := ⟨_, rfl⟩
        rw [← ekx] at c0 ⊢
        have EK := Lib.hid ekx
        have x0 : ((kx : Int) != 0) = true := by simp; omega
        have x1 : ((kx : Int) == 0) = false := by simp; omega
        clear s1 s2 s3 hO1 hR0 hfin own1 ekx
        go_wp2_with fail
        go_ret3
        obtain ⟨⟨k1, k2, k3⟩, k4⟩ := HN.out
        exact ⟨u5, by rw [k2, k3, ← EK.out]; rfl, by rw [k1]; exact k4, G1⟩
    · obtain rfl : at_ = n := by omega
      have t1 : decide ((at_ : Int) < (at_ : Int)) = false := decide_eq_false (by omega)
      have t2 : decide (at_ < at_) = false := decide_eq_false (by omega)
      have hR0 : R.length = 0 := by omega
      obtain rfl := List.eq_nil_of_length_eq_zero hR0
      obtain ⟨s1, s2, s3⟩ := sc_no (L := []) (by rw [nx_nil]; decide)
      rw [s1, List.append_nil] at e1
      rw [s2] at e2
      rw [s3] at e3
      have HN := Lib.hid (And.intro e1 (And.intro e2 (And.intro e3 hO)))
      clear e1 e2 e3 s1 s2 s3 hO eR hRl hR0
      go_wp2_with fail
      go_ret3
      obtain ⟨k1, k2, k3, k4⟩ := HN.out
      exact ⟨u5, by rw [k2, k3]; rfl, by rw [k1]; exact k4, hg⟩
theorem c_IsF {W0 : World} {v : Value} {at_ k : Nat} (hE : ErrT W0) (h : FErr W0 v at_ k) (w : World) (g : Gr W0 w) : Calls Tryd.prog 25 #[v, .int .i64 (k : Nat), .string frameS, .int .i64 (at_ : Nat)] w fun e w' => e = .returned (.bool true) ∧ Gr w w' := by
  rcases h with ⟨rfl, rfl⟩ | ⟨B, rfl, h1, h2, h3⟩
  · exact c_AlIs_nil frameS at_ w
  · exact c_AlIs_hit B frameS at_ k ⟨h1, h2⟩ w (errT_gr hE g) (faultAt_gr h3 g)
theorem c_IsF0 {W0 : World} {v : Value} {k : Nat} (hE : ErrT W0) (h : FErr W0 v 0 k) (w : World) (g : Gr W0 w) : Calls Tryd.prog 25 #[v, .int .i64 (k : Nat), .string frameS, .int .i64 0] w fun e w' => e = .returned (.bool true) ∧ Gr w w' := c_IsF hE h w g
theorem scEnd_le (L : List UInt8) : scEnd L ≤ L.length := by
  induction hn : L.length using Nat.strongRecOn generalizing L with
  | _ n ih =>
    subst hn
    by_cases h : nx L = 0
    · obtain ⟨-, s2, -⟩ := sc_ok h
      have h1 := nx_drop h
      have := ih _ h1 (L.drop (nxLen L)) rfl
      have h2 := nx_zero h
      have h3 := nxLen_ok h
      rw [List.length_drop] at this
      omega
    · obtain ⟨-, s2, -⟩ := sc_no h
      omega
theorem scRows_short (L : List UInt8) : (scRows L).length ≤ L.length ∧ ∀ M ∈ scRows L, M.length ≤ L.length := by
  induction hn : L.length using Nat.strongRecOn generalizing L with
  | _ n ih =>
    subst hn
    by_cases h : nx L = 0
    · obtain ⟨s1, -, -⟩ := sc_ok h
      have h1 := nx_drop h
      obtain ⟨a, b⟩ := ih _ h1 (L.drop (nxLen L)) rfl
      rw [s1]
      refine ⟨by simp only [List.length_cons]; omega, fun M hM => ?_⟩
      rcases List.mem_cons.1 hM with rfl | hM
      · unfold nxRow; rw [if_pos h]; simp; omega
      · have := b M hM; omega
    · obtain ⟨s1, -, -⟩ := sc_no h
      rw [s1]; simp
set_option maxHeartbeats 8000000 in
set_option maxRecDepth 100000 in
theorem walk_FrameAsks (W : World) (A : List UInt8) (a : Value) (B : List UInt8) (b : Value) (hA : Row W a A) (hB : Row W b B) (hE : ErrT W) (hF : FT W) : Calls Tryd.prog 14 #[a, b] W fun e w' => e = .returned (.bool true) ∧ Gr W w' := by
  have AW := Lib.hid (fun w (g : Gr W w) => p9_awake w (ft_gr hF g))
  obtain ⟨aa, ca, Ba, oa, rfl, a1, a2, a3, a4⟩ := id hA
  obtain ⟨ab, cb, Bb, ob, rfl, b1, b2, b3, b4⟩ := id hB
  obtain ⟨n, en⟩ : ∃ n, n = A.length := ⟨_, rfl⟩
  obtain ⟨m, em⟩ : ∃ n, n = B.length := ⟨_, rfl⟩
  rw [← en] at hA a1 ⊢
  rw [← em] at hB b1 ⊢
  have HH := Lib.hid (And.intro hA (And.intro hB (And.intro hE (And.intro hF (And.intro en em)))))
  clear a3 a4 b3 b4 hA hB hE hF
  by_cases h1 : 3000 < n
  · have t1 : decide ((3000 : Int) < (n : Int)) = true := decide_eq_true (by omega)
    have t2 : (3000 : Int) < (n : Int) := by omega
    clear en em
    go_enter Tryd.func14, Tryd.ntmps14
    go_wp2_with fail
    go_at_call 66
    (with_reducible refine (AW.out _ (by go_grown)).mono ?_)
    rintro e w1 ⟨rfl, g1⟩
    go_wp2_with fail
    go_ret
    exact ⟨rfl, g1⟩
  have t1 : decide ((3000 : Int) < (n : Int)) = false := decide_eq_false (by omega)
  have t2 : ¬ (3000 : Int) < (n : Int) := by omega
  by_cases h2 : 3000 < m
  · have t3 : decide ((3000 : Int) < (m : Int)) = true := decide_eq_true (by omega)
    have t4 : (3000 : Int) < (m : Int) := by omega
    clear en em
    go_enter Tryd.func14, Tryd.ntmps14
    go_wp2_with fail
    go_at_call 66
    (with_reducible refine (AW.out _ (by go_grown)).mono ?_)
    rintro e w1 ⟨rfl, g1⟩
    go_wp2_with fail
    go_ret
    exact ⟨rfl, g1⟩
  have t3 : decide ((3000 : Int) < (m : Int)) = false := decide_eq_false (by omega)
  have t4 : ¬ (3000 : Int) < (m : Int) := by omega
  have hlA : A.length ≤ 3000 := by omega
  have hlB : B.length ≤ 3000 := by omega
  obtain ⟨HA, HB, hE, hF, -⟩ := HH.out
  have K1 := Lib.hid (fun w (g : Gr W w) => c_Put w (ft_gr hF g) (row_gr HA g) (by omega))
  have K2 := Lib.hid (fun w (g : Gr W w) => c_rPut w (row_gr HA g) (by omega))
  have K3 := Lib.hid (fun w (g : Gr W w) => c_Next w (ft_gr hF g) (row_gr HB g) (by omega))
  have K4 := Lib.hid (fun w (g : Gr W w) => c_rNext w (row_gr HB g) (by omega))
  have K5 := Lib.hid (fun w (g : Gr W w) => c_Scan w (ft_gr hF g) (row_gr HB g) (by omega))
  have K6 := Lib.hid (fun w (g : Gr W w) => c_rScan w (row_gr HB g) (by omega))
  obtain ⟨sA, esA⟩ : ∃ s, s = Cr.sum A := ⟨_, rfl⟩
  have K7' := fun w (g : Gr W w) => c_Sum w (ft_gr hF g) (row_gr HA g) (by omega)
  have K8' := fun w (g : Gr W w) => c_rSum w (row_gr HA g) (by omega)
  rw [← esA] at K7' K8'
  have K7 := Lib.hid K7'
  have K8 := Lib.hid K8'
  have hfr : (fr A).length ≤ 1000000000 := by rw [fr_len]; omega
  have hnr : (nxRow B).length ≤ 1000000000 := by unfold nxRow; split <;> simp <;> omega
  have hsr := scRows_short B
  have HL := Lib.hid (And.intro hfr (And.intro hnr (And.intro (show (scRows B).length ≤ 1000000000 by omega) (fun (M : List UInt8) hM => show M.length ≤ 1000000000 by have := hsr.2 M hM; omega))))
  clear HA HB hE hF K7' K8' esA hfr hnr hsr hlA hlB en em h1 h2
  go_enter Tryd.func14, Tryd.ntmps14
  go_wp2_with fail
  go_at_call 67
  (with_reducible refine (K1.out _ (Below.refl _ _)).mono ?_)
  rintro e w1 ⟨x, rfl, ox, G1⟩
  go_wp2_with fail
  go_at_call 68
  (with_reducible refine (K2.out _ G1).mono ?_)
  rintro e w2 ⟨y, rfl, oy, g2⟩
  have G2 := Gr.trans G1 g2
  have C1 := Lib.hid (fun w (g : Gr w2 w) => c_BytesE w (row_gr (row_own (own_gr' ox g2)) g) (row_gr (row_own oy) g) HL.out.1)
  clear ox oy K1 K2
  go_wp2_with fail
  go_at_call 69
  (with_reducible refine (K3.out _ G2).mono ?_)
  rintro e w3 ⟨q, x3, rfl, oq, fe3, g3⟩
  have G3 := Gr.trans G2 g3
  go_wp2_with fail
  go_at_call 70
  (with_reducible refine (K4.out _ G3).mono ?_)
  rintro e w4 ⟨r, rfl, or', g4⟩
  have G4 := Gr.trans G3 g4
  have C2 := Lib.hid (fun w (g : Gr w4 w) => c_BytesE w (row_gr (row_own (own_gr' oq g4)) g) (row_gr (row_own or') g) HL.out.2.1)
  have C3 := Lib.hid (fun w (g : Gr w4 w) => c_IsF0 (errT_gr HH.out.2.2.1 G3) fe3 w (Gr.trans g4 g))
  clear oq or' fe3 K3 K4
  go_wp2_with fail
  go_at_call 71
  (with_reducible refine (K5.out _ G4).mono ?_)
  rintro e w5 ⟨l, x5, rfl, ol, fe5, g5⟩
  have G5 := Gr.trans G4 g5
  go_wp2_with fail
  go_at_call 72
  (with_reducible refine (K6.out _ G5).mono ?_)
  rintro e w6 ⟨k, rfl, ok, g6⟩
  have G6 := Gr.trans G5 g6
  have G46 := Gr.trans g5 g6
  have G26 := Gr.trans (Gr.trans g3 g4) G46
  have C4 := Lib.hid (fun w (g : Gr w6 w) => c_Rows_same w (rws_gr (rws_own (ownRws_gr ol g6) HL.out.2.2.1) g) (rws_gr (rws_own ok HL.out.2.2.1) g) HL.out.2.2.2)
  have C5 := Lib.hid (fun w (g : Gr w6 w) => c_IsF (errT_gr HH.out.2.2.1 G5) fe5 w (Gr.trans g6 g))
  obtain ⟨nl, enl⟩ : ∃ z, z = nxLen B := ⟨_, rfl⟩
  obtain ⟨nk, enk⟩ : ∃ z, z = nx B := ⟨_, rfl⟩
  obtain ⟨se, ese⟩ : ∃ z, z = scEnd B := ⟨_, rfl⟩
  obtain ⟨sc, esc⟩ : ∃ z, z = scCode B := ⟨_, rfl⟩
  rw [← enk] at C3
  rw [← ese, ← esc] at C5
  rw [← enl, ← enk, ← ese, ← esc]
  have s1 : ((nl : Int) == (nl : Int)) = true := by simp
  have s2 : ((se : Int) == (se : Int)) = true := by simp
  have s3 : ((sA : Int) == (sA : Int)) = true := by simp
  clear ol ok fe5 K5 K6 enl enk ese esc g2 g3 g4 g5 g6
  go_wp2_with fail
  go_at_call 60
  (with_reducible refine (C1.out _ G26).mono ?_)
  rintro e w7 ⟨rfl, g7⟩
  go_wp2_with fail
  go_at_call 37
  (with_reducible refine (c_Code_nil2 _).mono ?_)
  rintro e w8 ⟨rfl, g8⟩
  have G8 := Gr.trans (Gr.trans G6 g7) g8
  go_wp2_with fail
  go_at_call 73
  (with_reducible refine (K7.out _ G8).mono ?_)
  rintro e w9 ⟨rfl, g9⟩
  have G9 := Gr.trans G8 g9
  go_wp2_with fail
  go_at_call 74
  (with_reducible refine (K8.out _ G9).mono ?_)
  rintro e w10 ⟨rfl, g10⟩
  have G10 := Gr.trans G9 g10
  have G6t := Gr.trans (Gr.trans (Gr.trans g7 g8) g9) g10
  clear g7 g8 g9 g10 G8 G9
  go_wp2_with fail
  go_at_call 60
  (with_reducible refine (C2.out _ (Gr.trans G46 G6t)).mono ?_)
  rintro e w11 ⟨rfl, g11⟩
  have G11 := Gr.trans G10 g11
  have G6u := Gr.trans G6t g11
  go_wp2_with fail
  go_at_call 25
  (with_reducible refine (C3.out _ (Gr.trans G46 G6u)).mono ?_)
  rintro e w12 ⟨rfl, g12⟩
  have G12 := Gr.trans G11 g12
  have G6v := Gr.trans G6u g12
  go_wp2_with fail
  go_at_call 75
  (with_reducible refine (C4.out _ G6v).mono ?_)
  rintro e w13 ⟨rfl, g13⟩
  have G13 := Gr.trans G12 g13
  have G6w := Gr.trans G6v g13
  go_wp2_with fail
  go_at_call 25
  (with_reducible refine (C5.out _ G6w).mono ?_)
  rintro e w14 ⟨rfl, g14⟩
  have G14 := Gr.trans G13 g14
  go_wp2_with fail
  go_at_call 66
  (with_reducible refine (AW.out _ G14).mono ?_)
  rintro e w15 ⟨rfl, g15⟩
  go_wp2_with fail
  go_ret
  exact ⟨rfl, Gr.trans G14 g15⟩
end Go.Proofs.YtmcbanplpgooeaaDoor
