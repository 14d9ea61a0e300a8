/- the document's frames: put, Put, Next, Scan -/
import Derived.Test.YtmcbanplpgooeaaDoorFx
namespace Go.Proofs.YtmcbanplpgooeaaDoor
set_option linter.unusedVariables false
open Go.ChangeShapes Go.WideShapes Go.ChangeAt Go.RowKit

theorem anyown_lt' {w : World} {base n size k : Nat} {e : TypeId} {x : Value} {xs : List Value} (h : w.ownsRow base e size x n xs) (hk : x.ownBlock = some k) : base ≤ k := by
  rcases h.2 with ⟨rfl, -⟩ | ⟨g, cap, cur, rfl, hb, hg, -⟩
  · cases hk
  · simp [Value.ownBlock] at hk
    omega
theorem own_join' {w : World} {base : Nat} {v : Value} {A B : List UInt8} {p m : Nat} (hp : p = A.length) (hm : (B.map bv).length = m) (h : w.ownsRow base 5 1 v (p + m) (A.map bv ++ B.map bv)) : Own w base v (A ++ B) := by
  rw [List.length_map] at hm
  subst hp hm
  unfold Own
  rw [List.length_append, List.map_append]
  exact h
theorem news_of {w : World} {g off : Nat} {L : List UInt8} (h : ∀ j (hj : j < L.length), w.cell? ⟨g, off + j, none⟩ = some (bv L[j])) : ∀ j u, (L.map bv)[j]? = some u → w.cell? ⟨g, off + j, none⟩ = some u := fun j u hu => by
  rw [List.getElem?_map] at hu
  obtain ⟨c, hc, rfl⟩ := Option.map_eq_some_iff.1 hu
  obtain ⟨hj, rfl⟩ := List.getElem?_eq_some_iff.1 hc
  exact h j hj
set_option maxHeartbeats 8000000 in
set_option maxRecDepth 100000 in
theorem c_put4 (v : Nat) (hv : v < 4294967296) (W : World) :
    Calls Tryd.prog 140 #[.int .u64 v, .int .i64 4] W fun e w' => ∃ b', e = .returned b' ∧ Own w' W.heap.size b' (wd v) ∧ Gr W w' := by
  obtain ⟨i0, hi0, hz0, hz1, hz2⟩ := info_parts (P := Tryd.prog) (e := 5) (z := .int .u8 0) (size := 1) (bytes := 1) (by kernel_rfl)
  have HI := Lib.hid (And.intro hi0 (And.intro hz0 (And.intro hz1 hz2)))
  obtain ⟨b0, e0⟩ : ∃ q, q = v % 256 := ⟨_, rfl⟩
  obtain ⟨q1, e1⟩ : ∃ q, q = v / 256 := ⟨_, rfl⟩
  obtain ⟨b1, e2⟩ : ∃ q, q = q1 % 256 := ⟨_, rfl⟩
  obtain ⟨q2, e3⟩ : ∃ q, q = v / 65536 := ⟨_, rfl⟩
  obtain ⟨b2, e4⟩ : ∃ q, q = q2 % 256 := ⟨_, rfl⟩
  obtain ⟨q3, e5⟩ : ∃ q, q = v / 16777216 := ⟨_, rfl⟩
  obtain ⟨b3, e6⟩ : ∃ q, q = q3 % 256 := ⟨_, rfl⟩
  have hw : (wd v).map bv = [.int .u8 (b0 : Int), .int .u8 (b1 : Int), .int .u8 (b2 : Int), .int .u8 (b3 : Int)] := by
    rw [e6, e5, e4, e3, e2, e1, e0]
    show [bv _, bv _, bv _, bv _] = _
    rw [byte_eq (by omega), byte_eq (by omega), byte_eq (by omega), byte_eq (by omega)]
  have HW := Lib.hid hw
  have c0 : (v : Int) % 256 = (b0 : Int) := by omega
  have c0b : IntKind.u8.wrap (v : Int) = (b0 : Int) := by rw [wraps_u8', ← e0]
  have c1 : (v : Int) / 2 ^ 8 = (q1 : Int) := by rw [show ((2 : Int) ^ 8) = 256 from rfl]; omega
  have c1b : (v : Int) / 256 = (q1 : Int) := by omega
  have c1c : (v : Int) / 2 ^ min 8 64 = (q1 : Int) := c1
  have c1d : (q1 : Int) % 256 = (b1 : Int) := by omega
  have c1e : IntKind.u8.wrap (q1 : Int) = (b1 : Int) := by rw [wraps_u8', ← e2]
  have c2 : (v : Int) / 2 ^ 16 = (q2 : Int) := by rw [show ((2 : Int) ^ 16) = 65536 from rfl]; omega
  have c2b : (v : Int) / 65536 = (q2 : Int) := by omega
  have c2c : (v : Int) / 2 ^ min 16 64 = (q2 : Int) := c2
  have c2d : (q2 : Int) % 256 = (b2 : Int) := by omega
  have c2e : IntKind.u8.wrap (q2 : Int) = (b2 : Int) := by rw [wraps_u8', ← e4]
  have c3 : (v : Int) / 2 ^ 24 = (q3 : Int) := by rw [show ((2 : Int) ^ 24) = 16777216 from rfl]; omega
  have c3b : (v : Int) / 16777216 = (q3 : Int) := by omega
  have c3c : (v : Int) / 2 ^ min 24 64 = (q3 : Int) := c3
  have c3d : (q3 : Int) % 256 = (b3 : Int) := by omega
  have c3e : IntKind.u8.wrap (q3 : Int) = (b3 : Int) := by rw [wraps_u8', ← e6]
  have N0 : W.ownsRow W.heap.size 5 1 (.slice none 0 0) 0 [] := World.ownsRow_nil _ _ _ _
  have O0 := Lib.hid N0
  clear hi0 hz0 hz1 hz2 hw e0 e1 e2 e3 e4 e5 e6 N0
  go_enter Tryd.func140, Tryd.ntmps140
  go_wp2_with fail
  refine wp_loop_rounds 5 ?_
  rw [rounds_succ]
  go_wp2_with (first | (at_builtin; (refine wpList_append_own2 _ rfl (.tmp 12) (.tmp 18) 79 rfl W.heap.size 5 i0 (.int .u8 0) 1 1 Tryd.underlying79 HI.out.1 HI.out.2.1 HI.out.2.2.1 HI.out.2.2.2 rfl (by decide) (.slice none 0 0) 0 [] rfl (World.ownsRow.alloc O0.out _) ⟨W.heap.size, 0, none⟩ 1 1 [.int .u8 (b0 : Int)] rfl rfl (cell_one_new _ _ _) (by intro u hu; (simp at hu); subst hu; rfl) (by unfold maxLen; omega) (by omega) (by simp) ?_); intro v1 w1 own1 gr1))
  have G1 : Gr W w1 := gr1.gr ((Below.refl _ _).alloc (Nat.le_refl _) _) (fun k hk => by cases hk)
  simp only [Nat.zero_add, List.nil_append] at own1
  have O1 := Lib.hid own1
  have s1 := G1.size
  clear own1 gr1
  rw [rounds_succ]
  go_wp2_with (first | (at_builtin; (refine wpList_append_own2 _ rfl (.tmp 12) (.tmp 18) 79 rfl W.heap.size 5 i0 (.int .u8 0) 1 1 Tryd.underlying79 HI.out.1 HI.out.2.1 HI.out.2.2.1 HI.out.2.2.2 rfl (by decide) v1 1 _ rfl (World.ownsRow.alloc O1.out _) ⟨w1.heap.size, 0, none⟩ 1 1 [.int .u8 (b1 : Int)] rfl rfl (cell_one_new _ _ _) (by intro u hu; (simp at hu); subst hu; rfl) (by unfold maxLen; omega) (by omega) (by simp; omega) ?_); intro v2 w2 own2 gr2))
  have G2 : Gr W w2 := gr2.gr (Gr.trans G1 ((Below.refl _ _).alloc (Nat.le_refl _) _)) (fun k hk => (anyown_lt' O1.out hk))
  have O2 := Lib.hid own2
  have s2 := G2.size
  clear own2 gr2
  rw [rounds_succ]
  go_wp2_with (first | (at_builtin; (refine wpList_append_own2 _ rfl (.tmp 12) (.tmp 18) 79 rfl W.heap.size 5 i0 (.int .u8 0) 1 1 Tryd.underlying79 HI.out.1 HI.out.2.1 HI.out.2.2.1 HI.out.2.2.2 rfl (by decide) v2 2 _ rfl (World.ownsRow.alloc O2.out _) ⟨w2.heap.size, 0, none⟩ 1 1 [.int .u8 (b2 : Int)] rfl rfl (cell_one_new _ _ _) (by intro u hu; (simp at hu); subst hu; rfl) (by unfold maxLen; omega) (by omega) (by simp; omega) ?_); intro v3 w3 own3 gr3))
  have G3 : Gr W w3 := gr3.gr (Gr.trans G2 ((Below.refl _ _).alloc (Nat.le_refl _) _)) (fun k hk => (anyown_lt' O2.out hk))
  have O3 := Lib.hid own3
  have s3 := G3.size
  clear own3 gr3
  rw [rounds_succ]
  go_wp2_with (first | (at_builtin; (refine wpList_append_own2 _ rfl (.tmp 12) (.tmp 18) 79 rfl W.heap.size 5 i0 (.int .u8 0) 1 1 Tryd.underlying79 HI.out.1 HI.out.2.1 HI.out.2.2.1 HI.out.2.2.2 rfl (by decide) v3 3 _ rfl (World.ownsRow.alloc O3.out _) ⟨w3.heap.size, 0, none⟩ 1 1 [.int .u8 (b3 : Int)] rfl rfl (cell_one_new _ _ _) (by intro u hu; (simp at hu); subst hu; rfl) (by unfold maxLen; omega) (by omega) (by simp; omega) ?_); intro v4 w4 own4 gr4))
  have G4 : Gr W w4 := gr4.gr (Gr.trans G3 ((Below.refl _ _).alloc (Nat.le_refl _) _)) (fun k hk => (anyown_lt' O3.out hk))
  have O4 : Own w4 W.heap.size v4 (wd v) := by
    unfold Own
    rw [HW.out]
    exact own4
  have P4 := Lib.hid O4
  clear own4 gr4 O4
  rw [rounds_succ]
  go_wp2_with fail
  go_ret
  exact ⟨v4, rfl, P4.out, G4⟩
set_option maxHeartbeats 8000000 in
set_option maxRecDepth 100000 in
theorem c_rPut {L : List UInt8} {v : Value} (W : World) (h : Row W v L) (hl : L.length ≤ 65536) :
    Calls Tryd.prog 68 #[v] W fun e w' => ∃ b', e = .returned (.tuple #[b', .int .i64 0]) ∧ Own w' W.heap.size b' (fr L) ∧ Gr W w' := by
  obtain ⟨i0, hi0, hz0, hz1, hz2⟩ := info_parts (P := Tryd.prog) (e := 5) (z := .int .u8 0) (size := 1) (bytes := 1) (by kernel_rfl)
  have HI := Lib.hid (And.intro hi0 (And.intro hz0 (And.intro hz1 hz2)))
  have HR := Lib.hid h
  obtain ⟨ad, cap, B, off, rfl, h1, h2, h3, h4⟩ := h
  obtain ⟨n, en⟩ : ∃ n, n = L.length := ⟨_, rfl⟩
  have hnews := news_of h4
  have hlen : (L.map bv).length = n := by rw [List.length_map, en]
  rw [← en] at h3
  have HX := Lib.hid (And.intro h3 (And.intro hnews (And.intro en hlen)))
  rw [← en] at h1 hl ⊢
  have d1 : decide ((65536 : Int) < (n : Int)) = false := decide_eq_false (by omega)
  have d2 : decide (65536 < n) = false := decide_eq_false (by omega)
  have hn0 : (n : Int) ≤ 65536 := by omega
  have w1 : IntKind.u64.wrap (n : Int) = (n : Int) := IntWalk.u64_in _ (by omega)
  have C0 := Lib.hid (c_put4 n (by omega) W)
  clear h3 h4 en hi0 hz0 hz1 hz2 hnews hlen
  go_enter Tryd.func68, Tryd.ntmps68
  go_wp2_with fail
  go_at_call 140
  (with_reducible refine C0.out.mono ?_)
  rintro e w1 ⟨b1, rfl, own1, g1⟩
  have O1 := Lib.hid (show w1.ownsRow W.heap.size 5 1 b1 4 ((wd n).map bv) from own1)
  clear own1
  go_wp2_with (first | (at_builtin; (refine wpList_append_row rfl (.tmp 11) (.tmp 12) 79 rfl W.heap.size 5 i0 (.int .u8 0) 1 Tryd.underlying79 HI.out.1 HI.out.2.1 HI.out.2.2.1 HI.out.2.2.2 rfl b1 4 _ rfl O1.out ad n cap B off (L.map bv) rfl HX.out.1 HX.out.2.2.2 (fun j u hu => cell_gr g1 (HX.out.2.1 j u hu)) (bv_one L) (by unfold maxLen; omega) (by omega) g1.size ?_); intro v2 w2 own2 gr2))
  have own2' : Own w2 W.heap.size v2 (wd n ++ L) := by
    have e : 4 + n = (wd n ++ L).length := by rw [List.length_append, wd_len, HX.out.2.2.1]
    unfold Own
    rw [← e, List.map_append]
    exact own2
  have G2 : Gr W w2 := gr2.gr g1 (fun k hk => anyown_lt' O1.out hk)
  obtain ⟨g2, cap2, rfl, hb2, hlt2, hcc2, hcm2⟩ := row_form own2 (by omega)
  have hlw : (wd n ++ L).length = 4 + n := by rw [List.length_append, wd_len, ← HX.out.2.2.1]
  have hs := Cr.sum_lt (wd n ++ L)
  obtain ⟨s, es⟩ : ∃ s, s = Cr.sum (wd n ++ L) := ⟨_, rfl⟩
  have A1 := fun w (g : Gr w2 w) => c_rSum w (row_gr (row_own own2') g) (by omega)
  rw [← es] at A1 hs
  have C1 := Lib.hid A1
  have C2 := Lib.hid (fun w => c_put4 s hs w)
  have w3 : IntKind.u64.wrap (s : Int) = (s : Int) := IntWalk.u64_in _ (by omega)
  have HO := Lib.hid (And.intro own2' (And.intro hlw es))
  clear own2 own2' gr2 A1 hlw es hs
  go_wp2_with fail
  go_at_call 74
  (with_reducible refine (C1.out _ (Below.refl _ _)).mono ?_)
  rintro e w3 ⟨rfl, g3⟩
  go_wp2_with fail
  go_at_call 140
  (with_reducible refine (C2.out _).mono ?_)
  rintro e w4 ⟨b4, rfl, own4, g4⟩
  have G24 := Gr.trans g3 g4
  have G4 := Gr.trans G2 G24
  obtain ⟨g5, cap5, rfl, hb5, hlt5, hcc5, hcm5⟩ := row_form (show w4.ownsRow w3.heap.size 5 1 b4 4 ((wd s).map bv) from own4) (by omega)
  have news4 : ∀ j u, ((wd s).map bv)[j]? = some u → w4.cell? ⟨g5, 0 + j, none⟩ = some u := fun j u hu => by
    have h0 := World.ownsRow.cellAt own4 j (by have := (List.getElem?_eq_some_iff.1 hu).1; rw [List.length_map, wd_len] at this; omega)
    rw [Nat.zero_add, h0]; exact hu
  have O2 : w4.ownsRow W.heap.size 5 1 (.slice (some ⟨g2, 0, none⟩) (4 + n) cap2) (4 + n) ((wd n ++ L).map bv) := by
    have h := own_gr' HO.out.1 G24
    unfold Own at h
    rw [HO.out.2.1] at h
    exact h
  have HP := Lib.hid (And.intro O2 news4)
  clear own4 news4 O2 g3 g4
  go_wp2_with (first | (at_builtin; (refine wpList_append_row rfl (.tmp 14) (.tmp 18) 79 rfl W.heap.size 5 i0 (.int .u8 0) 1 Tryd.underlying79 HI.out.1 HI.out.2.1 HI.out.2.2.1 HI.out.2.2.2 rfl (.slice (some ⟨g2, 0, none⟩) (4 + n) cap2) (4 + n) ((wd n ++ L).map bv) rfl HP.out.1 (some ⟨g5, 0, none⟩) 4 cap5 g5 0 ((wd s).map bv) rfl (fun _ => rfl) rfl HP.out.2 (bv_one _) (by unfold maxLen; omega) (by omega) G4.size ?_); intro v6 w6 own6 gr6))
  have G6 : Gr W w6 := gr6.gr G4 (fun k hk => anyown_lt' HP.out.1 hk)
  have O6 : Own w6 W.heap.size v6 (fr L) := by
    have e : fr L = (wd n ++ L) ++ wd s := by unfold fr; rw [← HX.out.2.2.1, ← HO.out.2.2]
    rw [e]
    exact own_join' HO.out.2.1.symm rfl own6
  have P6 := Lib.hid O6
  clear own6 gr6 O6
  go_wp2_with fail
  go_ret2
  exact ⟨v6, rfl, P6.out, G6⟩
def RNextTo (W : World) (R : List UInt8) (e : Ending) (w' : World) : Prop :=
  ∃ q, e = .returned (.tuple #[q, .int .i64 (nxLen R : Nat), .int .i64 (nx R : Nat)]) ∧ Own w' W.heap.size q (nxRow R) ∧ Gr W w'
theorem rnext_err {W w' : World} {R : List UInt8} {k : Nat} (hk : nx R = k) (h0 : k ≠ 0) (g : Gr W w') : RNextTo W R (.returned (.tuple #[.slice none 0 0, .int .i64 0, .int .i64 k])) w' := by
  have e1 : nxLen R = 0 := by unfold nxLen; rw [if_neg (by omega)]
  have e2 : nxRow R = [] := by unfold nxRow; rw [if_neg (by omega)]
  exact ⟨.slice none 0 0, by rw [e1, hk]; rfl, by rw [e2]; exact own_nil _ _, g⟩
set_option maxHeartbeats 8000000 in
set_option maxRecDepth 100000 in
theorem c_rNext {R : List UInt8} {v : Value} (W : World) (R1 : Row W v R) (hRl : R.length ≤ 1000000) :
    Calls Tryd.prog 70 #[v] W (RNextTo W R) := by
  have HR := Lib.hid R1
  obtain ⟨ad, cap, B, off, rfl, q1, q2, q3, q4⟩ := R1
  have HQ := Lib.hid q2
  obtain ⟨n, en⟩ : ∃ n, n = R.length := ⟨_, rfl⟩
  rw [← en] at q1 hRl ⊢
  clear q3 q4 q2
  by_cases c1 : n < 4
  · have t1 : decide ((n : Int) < 4) = true := decide_eq_true (by omega)
    have t2 : (n : Int) < 4 := by omega
    have hk : nx R = 15 := by unfold nx; rw [if_pos (by omega)]
    have HK := Lib.hid hk
    clear hk en
    go_enter Tryd.func70, Tryd.ntmps70
    go_wp2_with fail
    go_ret3
    exact rnext_err HK.out (by decide) (Below.refl _ _)
  have t1 : decide ((n : Int) < 4) = false := decide_eq_false (by omega)
  have t2 : ¬ (n : Int) < 4 := by omega
  have A1 := fun w (g : Gr W w) => c_get4 w (row_gr HR.out g) (by omega) (by omega)
  rw [← en] at A1
  obtain ⟨s, es⟩ : ∃ s, s = wv R := ⟨_, rfl⟩
  have hs32 : s < 4294967296 := by rw [es]; exact wv_lt R
  rw [← es] at A1
  have H1 := Lib.hid A1
  clear A1
  by_cases c2 : 65536 < s
  · have u1 : decide ((65536 : Int) < (s : Int)) = true := decide_eq_true (by omega)
    have u2 : (65536 : Int) < (s : Int) := by omega
    have hk : nx R = 10 := by unfold nx; rw [if_neg (by omega), if_pos (by omega)]
    have HK := Lib.hid hk
    clear hk en es
    go_enter Tryd.func70, Tryd.ntmps70
    go_wp2_with fail
    go_at_call 142
    (with_reducible refine (H1.out _ (Below.refl _ _)).mono ?_)
    rintro e w0 ⟨rfl, g0⟩
    go_wp2_with fail
    go_ret3
    exact rnext_err HK.out (by decide) g0
  have hs5 : s ≤ 65536 := by omega
  have hs6 : (s : Int) ≤ 65536 := by omega
  have u1 : decide ((65536 : Int) < (s : Int)) = false := decide_eq_false (by omega)
  have u2 : ¬ (65536 : Int) < (s : Int) := by omega
  by_cases c3 : n < s + 8
  · have u3 : decide ((n : Int) < (s : Int) + 8) = true := decide_eq_true (by omega)
    have u4 : (n : Int) < (s : Int) + 8 := by omega
    have hk : nx R = 15 := by unfold nx; rw [if_neg (by omega), if_neg (by omega), if_pos (by omega)]
    have HK := Lib.hid hk
    clear hk en es
    go_enter Tryd.func70, Tryd.ntmps70
    go_wp2_with fail
    go_at_call 142
    (with_reducible refine (H1.out _ (Below.refl _ _)).mono ?_)
    rintro e w0 ⟨rfl, g0⟩
    go_wp2_with fail
    go_ret3
    exact rnext_err HK.out (by decide) g0
  have u3 : decide ((n : Int) < (s : Int) + 8) = false := decide_eq_false (by omega)
  have u4 : ¬ (n : Int) < (s : Int) + 8 := by omega
  obtain ⟨v2, ks2, R2⟩ := row_from (4 + s) (by omega) HR.out
  obtain ⟨v3, ks3, R3⟩ := row_to (4 + s) (by omega) HR.out
  rw [← en] at ks2 ks3
  rw [show ((4 + s : Nat) : Int) = (s : Int) + 4 by omega] at ks2 ks3
  have A2 := fun w (g : Gr W w) => c_get4 w (row_gr R2 g) (by simp; omega) (by simp; omega)
  have A3 := fun w (g : Gr W w) => c_rSum w (row_gr R3 g) (by simp; omega)
  obtain ⟨x, ex⟩ : ∃ x, x = wv (R.drop (4 + s)) := ⟨_, rfl⟩
  obtain ⟨y, ey⟩ : ∃ x, x = Cr.sum (R.take (4 + s)) := ⟨_, rfl⟩
  have hx32 : x < 4294967296 := by rw [ex]; exact wv_lt _
  have wx : IntKind.u32.wrap (x : Int) = (x : Int) := by rw [wrap_u32]; omega
  have wx2 : (x : Int) % 4294967296 = (x : Int) := by omega
  rw [← ex] at A2
  rw [← ey] at A3
  have H2 := Lib.hid A2
  have H3 := Lib.hid A3
  clear A2 A3
  by_cases c4 : x = y
  case neg =>
    have u5 : ((x : Int) != (y : Int)) = true := by simp; omega
    have u6 : (x != y) = true := by simp [c4]
    have hk : nx R = 10 := by unfold nx; rw [if_neg (by omega), if_neg (by omega), if_neg (by omega), ← es, ← ex, ← ey, if_neg c4]
    have HK := Lib.hid hk
    clear hk en es ex ey R2 R3 hx32 hs32
    go_enter Tryd.func70, Tryd.ntmps70
    go_wp2_with fail
    go_at_call 142
    (with_reducible refine (H1.out _ (Below.refl _ _)).mono ?_)
    rintro e w0 ⟨rfl, g0⟩
    go_wp2_with fail
    have hw4 : IntKind.i64.wrap ((s : Int) + 4) = (s : Int) + 4 := IntWalk.i64_in _ (by omega)
    go_region_with (first
      | (go_at_call 142; (with_reducible refine (H2.out _ (by first | exact g0 | exact g0.drew | exact Gr.trans g0 (by go_grown))).mono ?_); rintro e wa ⟨rfl, ga'⟩; have ga : Gr W wa := Gr.trans (by first | exact g0 | exact g0.drew | exact Gr.trans g0 (by go_grown)) ga'; clear ga')
      | (go_at_call 74; (with_reducible refine (H3.out _ (by first | exact ga | exact ga.drew | exact Gr.trans ga (by go_grown))).mono ?_); rintro e wb ⟨rfl, gb'⟩; have gb : Gr W wb := Gr.trans (by first | exact ga | exact ga.drew | exact Gr.trans ga (by go_grown)) gb'; clear gb'))
    all_goals
      clear hw4
      go_wp2_with fail
      go_ret3
      exact rnext_err HK.out (by decide) gb
  subst c4
  have u5 : ((x : Int) != (x : Int)) = false := by simp
  have u6 : (x != x) = false := by simp
  have hk : nx R = 0 := by unfold nx; rw [if_neg (by omega), if_neg (by omega), if_neg (by omega), ← es, ← ex, ← ey, if_pos rfl]
  have hrow : nxRow R = (R.take (4 + s)).drop 4 := by unfold nxRow; rw [if_pos hk, ← es]
  have hlen : nxLen R = s + 8 := by unfold nxLen; rw [if_pos hk, ← es]
  have HK := Lib.hid (And.intro hk (And.intro hrow hlen))
  obtain ⟨v4, ks4, R4⟩ := row_mid 4 (4 + s) (by omega) (by omega) HR.out
  rw [← en] at ks4
  rw [show ((4 + s : Nat) : Int) = (s : Int) + 4 by omega] at ks4
  obtain ⟨M, eM⟩ : ∃ M, M = (R.take (4 + s)).drop 4 := ⟨_, rfl⟩
  have hM : M.length = s := by rw [eM]; simp; omega
  rw [← eM] at R4
  obtain ⟨ad4, cap4, B4, off4, rfl, z1, z2, z3, z4⟩ := R4
  rw [hM] at ks4 z3 z1
  have ks5 : ∀ w0, (Instr.slice 79 (.slice ad n cap) (some (.int .i64 4)) (some (.int .i64 ((s : Int) + 4))) none).run Tryd.prog w0 = .ok (.slice ad4 s cap4) w0 := ks4
  have hnews : ∀ w, Gr W w → ∀ j u, (M.map bv)[j]? = some u → w.cell? ⟨B4, off4 + j, none⟩ = some u := fun w g j u hu => by
    rw [List.getElem?_map] at hu
    obtain ⟨c, hc, rfl⟩ := Option.map_eq_some_iff.1 hu
    obtain ⟨hj, rfl⟩ := List.getElem?_eq_some_iff.1 hc
    exact cell_gr g (z4 j hj)
  obtain ⟨i0, hi0, hz0, hz1, hz2⟩ := info_parts (P := Tryd.prog) (e := 5) (z := .int .u8 0) (size := 1) (bytes := 1) (by kernel_rfl)
  have HI := Lib.hid (And.intro hi0 (And.intro hz0 (And.intro hz1 hz2)))
  have HM := Lib.hid (And.intro z3 (And.intro hnews (And.intro (show (M.map bv).length = s by rw [List.length_map, hM]) (And.intro (bv_one M) (And.intro eM hM)))))
  have OE := Lib.hid (fun w : World => World.ownsRow_lit (base := w.heap.size) (e := 5) (size := 1) w #[] 0 (Nat.le_refl _) (by decide) (by simp))
  clear hk hrow hlen en es ex ey R2 R3 eM hM z3 z4 hnews hi0 hz0 hz1 hz2 ks4 hx32 hs32
  go_enter Tryd.func70, Tryd.ntmps70
  go_wp2_with fail
  go_at_call 142
  (with_reducible refine (H1.out _ (Below.refl _ _)).mono ?_)
  rintro e w0 ⟨rfl, g0⟩
  go_wp2_with fail
  have hw4 : IntKind.i64.wrap ((s : Int) + 4) = (s : Int) + 4 := IntWalk.i64_in _ (by omega)
  go_region_with (first
    | (go_at_call 142; (with_reducible refine (H2.out _ (by first | exact g0 | exact g0.drew | exact Gr.trans g0 (by go_grown))).mono ?_); rintro e wa ⟨rfl, ga'⟩; have ga : Gr W wa := Gr.trans (by first | exact g0 | exact g0.drew | exact Gr.trans g0 (by go_grown)) ga'; clear ga')
    | (go_at_call 74; (with_reducible refine (H3.out _ (by first | exact ga | exact ga.drew | exact Gr.trans ga (by go_grown))).mono ?_); rintro e wb ⟨rfl, gb'⟩; have gb : Gr W wb := Gr.trans (by first | exact ga | exact ga.drew | exact Gr.trans ga (by go_grown)) gb'; clear gb'))
  all_goals
    clear hw4
    go_wp2_with (first | (at_builtin; (refine wpList_append_row rfl (.tmp 30) (.tmp 34) 79 rfl wb.heap.size 5 i0 (.int .u8 0) 1 Tryd.underlying79 HI.out.1 HI.out.2.1 HI.out.2.2.1 HI.out.2.2.2 rfl (.slice (some ⟨wb.heap.size, 0, none⟩) 0 0) 0 [] rfl (OE.out wb) ad4 s cap4 B4 off4 (M.map bv) rfl HM.out.1 HM.out.2.2.1 (HM.out.2.1 _ (Gr.trans gb (by go_grown))) HM.out.2.2.2.1 (by unfold maxLen; omega) (by omega) (by simp) ?_); intro v5 w5 own5 gr5))
    have G5 : Gr W w5 := gr5.gr (Gr.trans gb (by go_grown)) (fun k h => by cases h; exact gb.size)
    have O5 : Own w5 wb.heap.size v5 M := by
      have h := own5
      rw [Nat.zero_add, List.nil_append] at h
      unfold Own
      rw [HM.out.2.2.2.2.2]
      exact h
    go_ret3
    refine ⟨v5, ?_, ?_, G5⟩
    · rw [HK.out.2.2, HK.out.1, show ((s + 8 : Nat) : Int) = (s : Int) + 8 by omega]
      rfl
    · rw [HK.out.2.1, ← HM.out.2.2.2.2.1]
      exact own_base O5 gb.size
end Go.Proofs.YtmcbanplpgooeaaDoor
