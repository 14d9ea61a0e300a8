/- FrameRest -/
import Derived.Test.YtmcbanplpgooeaaDoorFv
import Derived.Test.YtmcbanplpgooeaaDoorFq
namespace Go.Proofs.YtmcbanplpgooeaaDoor
set_option linter.unusedVariables false
open Go.ChangeShapes Go.WideShapes Go.ChangeAt Go.RowKit

/-- What is there after i rounds. -/
def RestB (Ls : List (List UInt8)) (k i : Nat) (Bs : List UInt8) (a : Nat) : Prop :=
  Bs.length = eL Ls i ∧ (i ≤ k → Bs = frs (Ls.take i)) ∧ (k < i → a = eL Ls k ∧ ∃ F M, Bs = frs (Ls.take k) ++ (F ++ M) ∧ ∀ M', nx (F ++ M') = 10)
theorem rest_zero (Ls : List (List UInt8)) (k : Nat) : RestB Ls k 0 [] 0 := ⟨by rw [eL_zero]; rfl, fun _ => by simp [frs], fun h => by omega⟩
theorem rest_plain {Ls : List (List UInt8)} {k i a : Nat} {Bs : List UInt8} (h : RestB Ls k i Bs a) (hi : i < Ls.length) (hik : i ≠ k) : RestB Ls k (i + 1) (Bs ++ fr Ls[i]) a := by
  obtain ⟨h1, h2, h3⟩ := h
  refine ⟨by rw [List.length_append, h1, fr_len, eL_succ hi], fun hle => ?_, fun hlt => ?_⟩
  · rw [h2 (by omega), take_succ' hi]
  · obtain ⟨k1, F, M, k2, k3⟩ := h3 (by omega)
    exact ⟨k1, F, M ++ fr Ls[i], by rw [k2]; simp [List.append_assoc], k3⟩
theorem rest_flip {Ls : List (List UInt8)} {k a : Nat} {Bs : List UInt8} (h : RestB Ls k k Bs a) (hi : k < Ls.length) (q : Nat) (x : UInt8) (hq : q < Ls[k].length) (hl : Ls[k].length ≤ 65536) (hx : x ≠ (Ls[k])[q]) :
    RestB Ls k (k + 1) (Bs ++ (fr Ls[k]).set (4 + q) x) Bs.length := by
  obtain ⟨h1, h2, h3⟩ := h
  refine ⟨by rw [List.length_append, h1, List.length_set, fr_len, eL_succ hi], fun hle => by omega, fun _ => ⟨h1, (fr Ls[k]).set (4 + q) x, [], by rw [h2 (Nat.le_refl _), List.append_nil], fun M' => nx_flip _ q x M' hq hl hx⟩⟩
theorem rest_sc {Ls : List (List UInt8)} {k a : Nat} {Bs : List UInt8} (h : RestB Ls k Ls.length Bs a) (hk : k < Ls.length) (hs : ∀ i (h : i < Ls.length), Ls[i].length ≤ 3160) :
    scRows Bs = Ls.take k ∧ scEnd Bs = a ∧ scCode Bs = 10 := by
  obtain ⟨h1, -, h3⟩ := h
  obtain ⟨rfl, F, M, rfl, k3⟩ := h3 hk
  have hle : ∀ L ∈ Ls.take k, L.length ≤ 65536 := fun L hL => by
    obtain ⟨i, hi, rfl⟩ := List.getElem_of_mem hL
    rw [List.length_take] at hi
    rw [List.getElem_take]
    have := hs i (by omega); omega
  obtain ⟨j1, j2, j3⟩ := sc_frs (F ++ M) (Ls.take k) hle
  have hn := k3 M
  obtain ⟨l1, l2, l3⟩ := sc_no (L := F ++ M) (by omega)
  have h0 : (F ++ M).length ≠ 0 := fun h => by
    have := List.eq_nil_of_length_eq_zero h
    rw [this, nx_nil] at hn; omega
  rw [j1, j2, j3, l1, l2, l3, hn, if_neg h0]
  exact ⟨List.append_nil _, rfl, rfl⟩
theorem own_join {w : World} {base : Nat} {v : Value} {A B : List UInt8} {p m : Nat} (hp : p = A.length) (hm : (B.map bv).length = m) (h : w.ownsRow base 5 1 v (p + m) (A.map bv ++ B.map bv)) : Own w base v (A ++ B) := by
  rw [List.length_map] at hm
  subst hp hm
  unfold Own
  rw [List.length_append, List.map_append]
  exact h
set_option maxHeartbeats 16000000 in
set_option maxRecDepth 100000 in
theorem walk_FrameRest (W : World) (Ls : List (List UInt8)) (v : Value) (zk z : Int) (hR : Rws W v Ls) (hzk : -9223372036854775808 ≤ zk ∧ zk ≤ 9223372036854775807) (hz : -9223372036854775808 ≤ z ∧ z ≤ 9223372036854775807) (hE : ErrT W) (hF : FT W) : Calls Tryd.prog 17 #[v, .int .i64 zk, .int .i64 z] W fun e w' => e = .returned (.bool true) ∧ Gr W w' := by
  have AW := Lib.hid (fun w (g : Gr W w) => p9_awake w (ft_gr hF g))
  have HR := Lib.hid hR
  obtain ⟨ad, cap, B, off, V, rfl, q1, q2, q3, q4⟩ := hR
  obtain ⟨n, en⟩ : ∃ n, n = Ls.length := ⟨_, rfl⟩
  have HX := Lib.hid (And.intro q3 (And.intro q4 en))
  rw [← en] at q1 HR ⊢
  have HF := Lib.hid hF
  have HE := Lib.hid hE
  clear q3 q4 hF hE
  by_cases h0 : n = 0
  · have t1 : ((n : Int) == 0) = true := by simp [h0]
    clear en
    go_enter Tryd.func17, Tryd.ntmps17
    go_wp2_with fail
    go_at_call 66
    (with_reducible refine (AW.out _ (by go_grown)).mono ?_)
    rintro e w1 ⟨rfl, g1⟩
    go_wp2_with fail
    go_ret
    exact ⟨rfl, g1⟩
  have t0 : ((n : Int) == 0) = false := by simp [h0]
  by_cases h1 : 20 < n
  · have t1 : decide ((20 : Int) < (n : Int)) = true := decide_eq_true (by omega)
    have t2 : (20 : Int) < (n : Int) := by omega
    clear en
    go_enter Tryd.func17, Tryd.ntmps17
    go_wp2_with fail
    go_at_call 66
    (with_reducible refine (AW.out _ (by go_grown)).mono ?_)
    rintro e w1 ⟨rfl, g1⟩
    go_wp2_with fail
    go_ret
    exact ⟨rfl, g1⟩
  have t1 : decide ((20 : Int) < (n : Int)) = false := decide_eq_false (by omega)
  have t2 : ¬ (20 : Int) < (n : Int) := by omega
  have C0 := Lib.hid (c_Total W HR.out)
  have EN := Lib.hid en
  clear en
  have R0 := Lib.hid (fun w => c_Round zk hzk.1 hzk.2 n (by omega) (by omega) w)
  go_enter Tryd.func17, Tryd.ntmps17
  go_wp2_with fail
  go_at_call 76
  (with_reducible refine C0.out.mono ?_)
  rintro e w0 ⟨t, rfl, ht, htl, g0⟩
  by_cases h2 : 3000 < t
  · have t3 : decide ((3000 : Int) < (t : Int)) = true := decide_eq_true (by omega)
    have t4 : (3000 : Int) < (t : Int) := by omega
    clear ht
    go_wp2_with fail
    go_at_call 66
    (with_reducible refine (AW.out _ g0).mono ?_)
    rintro e w1 ⟨rfl, g1⟩
    go_wp2_with fail
    go_ret
    exact ⟨rfl, Gr.trans g0 g1⟩
  have t3 : decide ((3000 : Int) < (t : Int)) = false := decide_eq_false (by omega)
  have t4 : ¬ (3000 : Int) < (t : Int) := by omega
  have hs := all_short (Ls := Ls) (by have := EN.out; omega) (by rw [ht (by omega)]; omega)
  have HS := Lib.hid hs
  clear ht hs htl
  go_wp2_with fail
  go_at_call 36
  (with_reducible refine (R0.out _).mono ?_)
  rintro e w1 ⟨kk, hkk, rfl, g1⟩
  have G1 := Gr.trans g0 g1
  clear g0 g1 R0
  have hkL : kk < Ls.length := by have := EN.out; omega
  obtain rfl := HX.out.1 (by omega)
  obtain ⟨c0, r0⟩ := HX.out.2.1 kk hkL
  have c1 := cell_gr G1 c0
  obtain ⟨lk, elk⟩ : ∃ l, l = (Ls[kk]'hkL).length := ⟨_, rfl⟩
  obtain ⟨ka, kc, ekv⟩ : ∃ a c, V kk = .slice a lk c := by obtain ⟨a, c, b, o, e, -⟩ := r0; rw [elk]; exact ⟨_, _, e⟩
  rw [ekv] at c1
  have hkn : (kk : Int) < (n : Int) := by omega
  have ELK := Lib.hid elk
  clear c0 r0 ekv elk
  by_cases h3 : lk = 0
  · have s1 : ((lk : Int) == 0) = true := by simp [h3]
    go_wp2_with fail
    go_at_call 66
    (with_reducible refine (AW.out _ G1).mono ?_)
    rintro e w2 ⟨rfl, g2⟩
    go_wp2_with fail
    go_ret
    exact ⟨rfl, Gr.trans G1 g2⟩
  have s1 : ((lk : Int) == 0) = false := by simp [h3]
  obtain ⟨i0, hi0, hz0, hz1, hz2⟩ := info_parts (P := Tryd.prog) (e := 5) (z := .int .u8 0) (size := 1) (bytes := 1) (by kernel_rfl)
  have HI := Lib.hid (And.intro hi0 (And.intro hz0 (And.intro hz1 hz2)))
  have HZ := Lib.hid hz
  have hn20 : n ≤ 20 := by omega
  have hn20i : (n : Int) ≤ 20 := by omega
  have hk20 : (kk : Int) ≤ 20 := by omega
  clear hi0 hz0 hz1 hz2 hz hzk h1 h2 t1 t2 t3 t4 t0
  go_wp2_with fail
  go_loopg [7, 8, 9] n (fun k x y u wr => ∃ i a : Nat, u = .int .i64 i ∧ y = .int .i64 a ∧ i ≤ n ∧ k = n - i ∧ (∃ Bs, Own wr W.heap.size x Bs ∧ RestB Ls kk i Bs a) ∧ Gr W wr)
  case atStart => exact ⟨0, 0, rfl, rfl, Nat.zero_le _, by omega, ⟨[], own_nil _ _, rest_zero _ _⟩, G1⟩
  case round =>
    obtain ⟨i, a, rfl, rfl, hi, hk, ⟨Bs, hO, hB⟩, hg⟩ := hrel
    by_cases h : i < n
    · have ti : decide ((i : Int) < (n : Int)) = true := decide_eq_true (by omega)
      have ti2 : decide (i < n) = true := decide_eq_true h
      have ti3 : (i : Int) < (n : Int) := by omega
      have hiL : i < Ls.length := by have := EN.out; omega
      obtain ⟨c0, r0⟩ := HX.out.2.1 i hiL
      have c2 := cell_gr hg c0
      have hpl := fun hne => rest_plain hB hiL hne
      obtain ⟨L, eL'⟩ : ∃ L, L = Ls[i]'hiL := ⟨_, rfl⟩
      rw [← eL'] at r0 hpl
      have hLl : L.length ≤ 3160 := by rw [eL']; exact HS.out.2 i hiL
      have hBl : Bs.length ≤ 3160 := by
        have e1 := hB.1
        have e2 := eL_mono Ls (j := i) (k := Ls.length) (by omega) (Nat.le_refl _)
        have e3 := HS.out.1
        omega
      obtain ⟨l, el⟩ : ∃ l, l = L.length := ⟨_, rfl⟩
      obtain ⟨xa, xc, ex⟩ : ∃ a c, V i = .slice a l c := by obtain ⟨a, c, b, o, e, -⟩ := r0; rw [el]; exact ⟨_, _, e⟩
      rw [ex] at c2 r0
      have C1 := Lib.hid (fun w (g : Gr wr w) => c_Put w (ft_gr HF.out (Gr.trans hg g)) (row_gr r0 (Gr.trans hg g)) (by omega))
      have hl3 : (l : Int) ≤ 3160 := by omega
      have HL := Lib.hid (And.intro hpl (And.intro el (And.intro eL' (And.intro hO (And.intro hB (And.intro hBl hLl))))))
      have hmm : n - (i + 1) < gk := by omega
      clear c0 r0 ex eL' hLl el hk hpl hO hB hBl
      go_wp2_with fail
      go_at_call 67
      (with_reducible refine (C1.out _ (by go_grown)).mono ?_)
      rintro e w2 ⟨b1, rfl, own1, g2⟩
      have own1' : w2.ownsRow wr.heap.size 5 1 b1 (L.length + 8) ((fr L).map bv) := by rw [← fr_len]; exact own1
      obtain ⟨g, cap1, rfl, hg1, hg2, hc1, hc2⟩ := row_form own1' (by omega)
      obtain ⟨m, em⟩ : ∃ m, m = L.length + 8 := ⟨_, rfl⟩
      rw [← em] at own1' hc1 ⊢
      have G2 : Gr W w2 := Gr.trans hg g2
      have s2 : ((m : Int) != (l : Int) + 8) = false := by have := HL.out.2.1; simp; omega
      have c3 := cell_gr g2 c2
      have hm3 : (m : Int) ≤ 3168 := by have := HL.out.2.2.2.2.2.2; omega
      have ml8 : m = l + 8 := by have := HL.out.2.1; omega
      have x7 := own_gr' HL.out.2.2.2.1 g2
      have HQ := Lib.hid (And.intro own1' (And.intro x7 (And.intro hg1 (And.intro hg2 (And.intro ml8 em)))))
      obtain ⟨ba, bc, rfl⟩ : ∃ a c, u7 = .slice a Bs.length c := by obtain ⟨a, c, b, o, e, -⟩ := row_own x7; exact ⟨_, _, e⟩
      obtain ⟨p, ep⟩ : ∃ p, p = Bs.length := ⟨_, rfl⟩
      rw [← ep]
      have EP := Lib.hid ep
      have hp3 : (p : Int) ≤ 3160 := by have := HL.out.2.2.2.2.2.1; omega
      clear own1 own1' x7 em ml8 ep g2 hg1 hg2
      by_cases hik : i = kk
      · subst hik
        have s3 : ((i : Int) == (i : Int)) = true := by simp
        obtain rfl : l = lk := by have e1 := HL.out.2.1; have e2 := HL.out.2.2.1; have e3 := ELK.out; rw [e1, e2, e3]
        have A2 : ∀ w, Calls Tryd.prog 36 #[.int .i64 z, .int .i64 (8 * (l : Int))] w fun e w' => ∃ k : Nat, k < 8 * l ∧ e = .returned (.int .i64 (k : Int)) ∧ Gr w w' := fun w => by
          have h := c_Round z HZ.out.1 HZ.out.2 (8 * l) (by omega) (by omega) w
          rw [show ((8 * l : Nat) : Int) = 8 * (l : Int) by omega] at h
          exact h
        have H2 := Lib.hid A2
        clear A2
        go_wp2_with fail
        go_at_call 36
        (with_reducible refine (H2.out _).mono ?_)
        rintro e w3 ⟨k, hk, rfl, g3⟩
        have G3 := Gr.trans G2 g3
        obtain ⟨q, eq⟩ : ∃ q, q = k / 8 := ⟨_, rfl⟩
        obtain ⟨j, ej⟩ : ∃ j, j = k % 8 := ⟨_, rfl⟩
        obtain ⟨x, ex⟩ : ∃ x, x = rb (fr L) (4 + q) := ⟨_, rfl⟩
        have hx : x < 256 := by rw [ex]; exact rb_lt _ _
        have hq : q < l := by omega
        have hj : j < 8 := by omega
        obtain ⟨y, hy, hyx, hb⟩ := flip8 hx hj
        obtain ⟨pw, epw⟩ : ∃ pw, pw = 2 ^ j := ⟨_, rfl⟩
        have hpw : 2 ^ j < 256 := Nat.lt_of_lt_of_le (Nat.pow_lt_pow_right (by decide) hj) (by decide)
        have hs2 : (2 : Int) ^ j % 256 = (pw : Int) := by rw [show ((2 : Int) ^ j) = ((2 ^ j : Nat) : Int) by rw [Int.natCast_pow]; rfl, epw]; omega
        rw [← epw] at hb
        have cf : w3.cell? ⟨g, 4 + q, none⟩ = some (.int .u8 (x : Int)) := by
          have h0 := World.ownsRow.cellAt HQ.out.1 (4 + q) (by have := HQ.out.2.2.2.2.1; omega)
          have hlen : 4 + q < (fr L).length := by rw [fr_len]; have := HL.out.2.1; omega
          rw [List.getElem?_map, List.getElem?_eq_getElem hlen] at h0
          rw [cell_gr g3 (h0.trans rfl), ex, ← rb_at (fr L) hlen]
        have ff : w3.frozen? ⟨g, 4 + q, none⟩ = false := World.ownsRow.frozenAt (rowOwn_gr HQ.out.1 g3) (4 + q)
        have k1 : Int.tdiv (k : Int) 8 = (q : Int) := by rw [Int.tdiv_eq_ediv_of_nonneg (by omega)]; omega
        have k2 : Int.tmod (k : Int) 8 = (j : Int) := by rw [Int.tmod_eq_emod_of_nonneg (by omega)]; omega
        have k3 : (k : Int) / 8 = (q : Int) := by omega
        have k4 : (k : Int) % 8 = (j : Int) := by omega
        have hidx : (4 : Int) + (q : Int) < (m : Int) := by have := HQ.out.2.2.2.2.1; omega
        have hqs : (q : Int) ≤ 3160 := by omega
        have hj2 : (j : Int) < 8 := by omega
        have hqL : q < (Ls[i]'hiL).length := by rw [← HL.out.2.2.1, ← HL.out.2.1]; exact hq
        have NX := rest_flip HL.out.2.2.2.2.1 hiL q (UInt8.ofNat y) hqL (by have := HS.out.2 i hiL; omega) (fun e => by
          have e1 := congrArg UInt8.toNat e
          rw [← fr_at _ q hqL, ← HL.out.2.2.1, ← ex, UInt8.toNat_ofNat'] at e1
          exact hyx (by omega))
        rw [← HL.out.2.2.1, ← EP.out] at NX
        have FIN := Lib.hid (And.intro NX (And.intro hy (And.intro (rowOwn_gr HQ.out.1 g3) (own_gr' HQ.out.2.1 g3))))
        clear NX hqL hyx hpw ex epw ej eq hx hq hk hy g3 H2 s3 c2 c3 hj
        go_wp2_with fail
        refine Hd.wp_region_tail 15 (by kernel_rfl) (by kernel_rfl) ?_
        intro KQ hKQ
        repeat (first | (refine Hd.wpG_skip (by decide) rfl ?_; simp only [Act.put, List.setIfInBounds_toArray, List.set_cons_zero, List.set_cons_succ]) | (refine Hd.wpG_want (by decide) rfl ?_; apply Exists.intro; refine ⟨?_, ?_⟩; (· intro wx gx; (obtain ⟨mx, rfl⟩ := gx); all_goals (apply Hd.gAt_of_quiet; intro K hK; go_big_quiet_op; first | exact hK _ rfl | (apply Exists.intro; refine ⟨fun _ => ?_, ?_⟩; (· fail); exact hK _ rfl))); try simp only [Act.put, List.setIfInBounds_toArray, List.set_cons_zero, List.set_cons_succ]))
        refine Hd.wpG_nil (hKQ _ ?_)
        clear hKQ KQ
        intro w4 hhw4
        have hw4 := Hd.gr_of_spread hhw4
        have c4 := cell_gr hw4 cf
        have f4 := frozen_gr hw4 cf ff
        have G4 := Gr.trans G3 hw4
        have R4 := Lib.hid (And.intro (rowOwn_gr FIN.out.2.2.1 hw4) (own_gr' FIN.out.2.2.2 hw4))
        clear cf ff G3 hw4 hhw4
        have hst := World.ownsRow.stored R4.out.1 (4 + q) (.int .u8 (y : Int))
        obtain ⟨w5, hw5⟩ : ∃ w5, w5 = w4.setCell ⟨g, 4 + q, none⟩ (.int .u8 (y : Int)) := ⟨_, rfl⟩
        rw [← hw5] at hst
        have G5 : Gr W w5 := gr_of_grown G4 hst.2 (fun k h => by cases h; have := HQ.out.2.2.1; have := hg.size; omega)
        have O5 : w5.ownsRow wr.heap.size 5 1 (.slice (some ⟨g, 0, none⟩) m cap1) m (((fr L).set (4 + q) (UInt8.ofNat y)).map bv) := by
          rw [List.map_set, byte_eq FIN.out.2.1]
          exact hst.1
        have news : ∀ j u, (((fr L).set (4 + q) (UInt8.ofNat y)).map bv)[j]? = some u → w5.cell? ⟨g, 0 + j, none⟩ = some u := fun j u hu => by
          have h0 := World.ownsRow.cellAt O5 j (by have := (List.getElem?_eq_some_iff.1 hu).1; have h1 := O5.1; omega)
          rw [Nat.zero_add, h0]; exact hu
        have X5 : w5.ownsRow W.heap.size 5 1 (.slice ba p bc) p (Bs.map bv) := by
          have h1 : Own w5 W.heap.size (.slice ba Bs.length bc) Bs := World.ownsRow.kept R4.out.2 hst.2 (by
            rcases hh : (Value.slice ba Bs.length bc).ownBlock with _ | kx
            · exact Or.inl rfl
            · right
              intro e
              have h2 := (anyown_lt HL.out.2.2.2.1 hh).1
              have h3 := HQ.out.2.2.1
              have h4 := Option.some.inj e
              omega)
          unfold Own at h1
          rw [← EP.out] at h1
          exact h1
        have hml : (((fr L).set (4 + q) (UInt8.ofNat y)).map bv).length = m := by have := O5.1; omega
        have HP := Lib.hid (And.intro X5 (And.intro news (And.intro hml hw5)))
        clear X5 news hml hst O5
        have hp6 : p ≤ 3160 := by omega
        have hm6 : m ≤ 3168 := by omega
        go_wp2_with (first | (at_builtin; rw [← HP.out.2.2.2]; (refine wpList_append_row rfl (.tmp 96) (.tmp 97) 79 rfl W.heap.size 5 i0 (.int .u8 0) 1 Tryd.underlying79 HI.out.1 HI.out.2.1 HI.out.2.2.1 HI.out.2.2.2 rfl (.slice ba p bc) p (Bs.map bv) rfl HP.out.1 (some ⟨g, 0, none⟩) m cap1 g 0 (((fr L).set (4 + q) (UInt8.ofNat y)).map bv) rfl (fun _ => rfl) HP.out.2.2.1 HP.out.2.1 (bv_one _) (by unfold maxLen; omega) (by omega) G5.size ?_); intro v6 w6 own6 gr6))
        have G6 : Gr W w6 := gr6.gr G5 (fun k hk => (anyown_lt HP.out.1 hk).2)
        have O6 := Lib.hid (own_join EP.out HP.out.2.2.1 own6)
        clear own6 gr6
        go_wp2_with fail
        go_roundg (n - (i + 1))
        case measure => exact hmm
        case rel => exact ⟨i + 1, p, by go_num, rfl, h, rfl, ⟨_, O6.out, FIN.out.1⟩, G6⟩
      · have s3 : ((i : Int) == (kk : Int)) = false := by simp; omega
        have news : ∀ j u, ((fr L).map bv)[j]? = some u → w2.cell? ⟨g, 0 + j, none⟩ = some u := fun j u hu => by
          have h0 := World.ownsRow.cellAt HQ.out.1 j (by have := (List.getElem?_eq_some_iff.1 hu).1; have h1 := HQ.out.1.1; omega)
          rw [Nat.zero_add, h0]; exact hu
        have X2 : w2.ownsRow W.heap.size 5 1 (.slice ba p bc) p (Bs.map bv) := by
          have h1 := HQ.out.2.1
          unfold Own at h1
          rw [← EP.out] at h1
          exact h1
        have hml : ((fr L).map bv).length = m := by have := HQ.out.1.1; omega
        have hp6 : p ≤ 3160 := by omega
        have hm6 : m ≤ 3168 := by omega
        have HP := Lib.hid (And.intro X2 (And.intro news hml))
        clear X2 news hml c2
        go_wp2_with (first | (at_builtin; (refine wpList_append_row rfl (.tmp 96) (.tmp 97) 79 rfl W.heap.size 5 i0 (.int .u8 0) 1 Tryd.underlying79 HI.out.1 HI.out.2.1 HI.out.2.2.1 HI.out.2.2.2 rfl (.slice ba p bc) p (Bs.map bv) rfl HP.out.1 (some ⟨g, 0, none⟩) m cap1 g 0 ((fr L).map bv) rfl (fun _ => rfl) HP.out.2.2 HP.out.2.1 (bv_one _) (by unfold maxLen; omega) (by omega) G2.size ?_); intro v6 w6 own6 gr6))
        have G6 : Gr W w6 := gr6.gr G2 (fun k hk => (anyown_lt HP.out.1 hk).2)
        have O6 := Lib.hid (own_join EP.out HP.out.2.2 own6)
        clear own6 gr6
        go_wp2_with fail
        go_roundg (n - (i + 1))
        case measure => exact hmm
        case rel => exact ⟨i + 1, a, by go_num, rfl, h, rfl, ⟨_, O6.out, HL.out.1 hik⟩, G6⟩
    · obtain rfl : n = i := by omega
      have ti : decide ((n : Int) < (n : Int)) = false := decide_eq_false (by omega)
      have ti2 : decide (n < n) = false := decide_eq_false (by omega)
      rw [EN.out] at hB
      have hcs := rest_sc hB hkL HS.out.2
      have hBl : Bs.length ≤ 3160 := by have e1 := hB.1; have e3 := HS.out.1; omega
      obtain ⟨vl, kl, Rl⟩ := rws_to kk (by omega) HR.out
      have hRb := row_own hO
      obtain ⟨ba, bn, bc, rfl⟩ : ∃ a n c, u7 = .slice a n c := own_slice hO
      obtain ⟨la, ln, lc, rfl⟩ : ∃ a n c, vl = .slice a n c := by obtain ⟨a, c, b, o, -, e, -⟩ := Rl; exact ⟨_, _, _, e⟩
      have CS := Lib.hid (c_Scan wr (ft_gr HF.out hg) hRb (by omega))
      have HM := Lib.hid (And.intro hcs Rl)
      have e1 : ((a : Int) == (a : Int)) = true := by simp
      clear hcs Rl hRb hO hB hk
      go_wp2_with fail
      go_at_call 71
      (with_reducible refine CS.out.mono ?_)
      rintro e w5 ⟨q, x5, rfl, own5, fe, g5⟩
      rw [HM.out.1.1] at own5
      rw [HM.out.1.2.1, HM.out.1.2.2] at fe
      rw [HM.out.1.2.1]
      have G5 := Gr.trans hg g5
      have Rq := rws_own own5 (by rw [List.length_take]; have := EN.out; omega)
      obtain ⟨qa, qn, qc, rfl⟩ : ∃ a n c, q = .slice a n c := by obtain ⟨a, c, b, o, -, e, -⟩ := Rq; exact ⟨_, _, _, e⟩
      have CR := Lib.hid (c_Rows_same w5 Rq (rws_gr HM.out.2 G5) (fun L hL => by
        obtain ⟨i, hi, rfl⟩ := List.getElem_of_mem hL
        rw [List.length_take] at hi
        rw [List.getElem_take]
        have := HS.out.2 i (by omega); omega))
      obtain ⟨B1, rfl, hFa⟩ := ferr_k fe (by decide)
      have CI : ∀ w (g : Gr w5 w), Calls Tryd.prog 25 #[.iface 64 (.pointer (some ⟨B1, 0, none⟩)), .int .i64 10, .string frameS, .int .i64 a] w fun e w' => e = .returned (.bool true) ∧ Gr w w' := fun w g => c_AlIs_hit B1 frameS a 10 (by decide) w (errT_gr HE.out (Gr.trans G5 g)) (faultAt_gr hFa g)
      have HCI := Lib.hid CI
      clear CI hFa fe own5 Rq g5 CS
      go_wp2_with fail
      go_at_call 75
      (with_reducible refine CR.out.mono ?_)
      rintro e w6 ⟨rfl, g6'⟩
      go_wp2_with fail
      go_at_call 25
      (with_reducible refine (HCI.out _ g6').mono ?_)
      rintro e w7 ⟨rfl, g7⟩
      have G7 := Gr.trans (Gr.trans G5 g6') g7
      go_wp2_with fail
      go_at_call 66
      (with_reducible refine (AW.out _ G7).mono ?_)
      rintro e w8 ⟨rfl, g8⟩
      go_wp2_with fail
      go_ret
      exact ⟨rfl, Gr.trans G7 g8⟩
end Go.Proofs.YtmcbanplpgooeaaDoor
