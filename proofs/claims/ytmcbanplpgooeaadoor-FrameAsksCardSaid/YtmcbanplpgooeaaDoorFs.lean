/- frame: Scan -/
import Derived.Test.YtmcbanplpgooeaaDoorFj
import Derived.Test.YtmcbanplpgooeaaDoorFr
namespace Go.Proofs.YtmcbanplpgooeaaDoor
set_option linter.unusedVariables false
open Go.ChangeShapes Go.WideShapes Go.ChangeAt Go.RowKit

theorem own_lt {w : World} {base k : Nat} {v : Value} {L : List UInt8} (h : Own w base v L) (hk : v.ownBlock = some k) : k < w.heap.size := by
  rcases h.2 with ⟨rfl, -⟩ | ⟨g, cap, cur, rfl, hb, hg, -⟩
  · cases hk
  · simp [Value.ownBlock] at hk
    subst hk
    exact (Array.getElem?_eq_some_iff.1 hg).1
theorem own_one {w : World} {base : Nat} {v : Value} {L : List UInt8} (h : Own w base v L) : v.oneCell' = true := by
  rcases h.2 with ⟨rfl, -⟩ | ⟨g, cap, cur, rfl, -⟩ <;> rfl
theorem own_slice {w : World} {base : Nat} {v : Value} {L : List UInt8} (h : Own w base v L) : ∃ ad n c, v = .slice ad n c := by
  rcases h.2 with ⟨rfl, -⟩ | ⟨g, cap, cur, rfl, -⟩ <;> exact ⟨_, _, _, rfl⟩
/-- A row of rows of bytes that the call owns. -/
def OwnRws (w : World) (base : Nat) (v : Value) (Ls : List (List UInt8)) : Prop :=
  ∃ vs : List Value, w.ownsRow base 79 1 v Ls.length vs ∧ ∀ j (h : j < Ls.length), ∃ x, vs[j]? = some x ∧ Own w base x Ls[j] ∧ ∀ k, x.ownBlock = some k → v.ownBlock ≠ some k
theorem ownRws_nil (w : World) (base : Nat) : OwnRws w base (.slice none 0 0) [] := ⟨[], World.ownsRow_nil _ _ _ _, fun j h => absurd h (by simp)⟩
theorem ownRws_gr {a b : World} {base : Nat} {v : Value} {Ls : List (List UInt8)} (h : OwnRws a base v Ls) (g : Gr a b) : OwnRws b base v Ls := by
  obtain ⟨vs, h1, h2⟩ := h
  refine ⟨vs, rowOwn_gr h1 g, fun j hj => ?_⟩
  obtain ⟨x, e, o, d⟩ := h2 j hj
  exact ⟨x, e, own_gr' o g, d⟩
theorem rws_next {a w : World} {base : Nat} {v v' u : Value} {Ls : List (List UInt8)} {M : List UInt8} {vs : List Value} (hv : a.ownsRow base 79 1 v Ls.length vs) (own2 : w.ownsRow base 79 1 v' (Ls.length + 1) (vs ++ [u])) (gr : Grown a w v v')
    (hel : ∀ j (h : j < Ls.length), ∃ x, vs[j]? = some x ∧ Own a base x Ls[j] ∧ ∀ k, x.ownBlock = some k → v.ownBlock ≠ some k) (hu : Own a base u M) (hd : ∀ k, u.ownBlock = some k → v.ownBlock ≠ some k) : OwnRws w base v' (Ls ++ [M]) := by
  have key : ∀ (x : Value) (L : List UInt8), Own a base x L → (∀ k, x.ownBlock = some k → v.ownBlock ≠ some k) → Own w base x L ∧ ∀ k, x.ownBlock = some k → v'.ownBlock ≠ some k := fun x L h hn => by
    refine ⟨?_, fun k hk hk' => ?_⟩
    · refine World.ownsRow.kept h gr.1 ?_
      rcases hh : x.ownBlock with _ | k
      · exact Or.inl rfl
      · exact Or.inr (fun e => hn k hh e.symm)
    · rcases gr.2 k hk' with h1 | h1
      · exact hn k hk h1
      · have := own_lt h hk
        omega
  have hl : vs.length = Ls.length := by have := hv.1; omega
  refine ⟨vs ++ [u], by rw [List.length_append]; exact own2, fun j hj => ?_⟩
  rw [List.length_append, List.length_singleton] at hj
  by_cases c : j < Ls.length
  · obtain ⟨x, e, o, d⟩ := hel j c
    obtain ⟨k1, k2⟩ := key x _ o d
    refine ⟨x, ?_, ?_, k2⟩
    · rw [List.getElem?_append_left (by omega)]; exact e
    · rw [List.getElem_append_left c]; exact k1
  · obtain rfl : j = Ls.length := by omega
    obtain ⟨k1, k2⟩ := key u M hu hd
    refine ⟨u, ?_, ?_, k2⟩
    · rw [← hl, List.getElem?_append_right (Nat.le_refl _), Nat.sub_self]; rfl
    · rw [List.getElem_append_right (Nat.le_refl _)]; simpa using k1
def ScanTo (W : World) (L : List UInt8) (e : Ending) (w' : World) : Prop :=
  ∃ q x, e = .returned (.tuple #[q, .int .i64 (scEnd L : Nat), x]) ∧ OwnRws w' W.heap.size q (scRows L) ∧ FErr w' x (scEnd L) (scCode L) ∧ Gr W w'
theorem ferr_0 {w : World} {v : Value} {at_ : Nat} (h : FErr w v at_ 0) : v = .nilIface := by
  rcases h with ⟨h, -⟩ | ⟨B, -, h, -⟩
  · exact h
  · omega
theorem ferr_k {w : World} {v : Value} {at_ k : Nat} (h : FErr w v at_ k) (hk : k ≠ 0) : ∃ B, v = .iface 64 (.pointer (some ⟨B, 0, none⟩)) ∧ FaultAt w B frameS at_ k := by
  rcases h with ⟨-, h⟩ | ⟨B, e, -, -, h⟩
  · exact absurd h hk
  · exact ⟨B, e, h⟩
set_option maxHeartbeats 8000000 in
set_option maxRecDepth 100000 in
theorem c_Scan {L : List UInt8} {v : Value} (W : World) (hF : FT W) (h : Row W v L) (hl : L.length ≤ 1000000) :
    Calls Tryd.prog 71 #[v] W (ScanTo W L) := by
  obtain ⟨i0, hi0, hz0, hz1, hz2⟩ := info_parts (P := Tryd.prog) (e := 79) (z := .slice none 0 0) (size := 1) (bytes := 24) (by kernel_rfl)
  have HI := Lib.hid (And.intro hi0 (And.intro hz0 (And.intro hz1 hz2)))
  have HF := Lib.hid hF
  have HR := Lib.hid h
  obtain ⟨ad, cap, B, off, rfl, q1, q2, q3, q4⟩ := h
  obtain ⟨n, en⟩ : ∃ n, n = L.length := ⟨_, rfl⟩
  rw [← en] at HR q1 hl ⊢
  have EN := Lib.hid en
  clear hi0 hz0 hz1 hz2 hF q3 q4 en
  go_enter Tryd.func71, Tryd.ntmps71
  go_wp2_with fail
  go_loopg [2, 3] n (fun k x y wr => ∃ (at_ : Nat) (rows : List (List UInt8)), y = .int .i64 at_ ∧ at_ ≤ n ∧ k = n - at_ ∧ scRows L = rows ++ scRows (L.drop at_) ∧ scEnd L = at_ + scEnd (L.drop at_) ∧ scCode L = scCode (L.drop at_) ∧ OwnRws wr W.heap.size x rows ∧ rows.length ≤ at_ ∧ Gr W wr)
  case atStart => exact ⟨0, [], rfl, Nat.zero_le _, by omega, rfl, by rw [Nat.zero_add]; rfl, rfl, ownRws_nil _ _, Nat.le_refl _, Below.refl _ _⟩
  case round =>
    obtain ⟨at_, rows, rfl, ha, hk, e1, e2, e3, hO, hrl, hg⟩ := hrel
    obtain ⟨R, eR⟩ : ∃ R, R = L.drop at_ := ⟨_, rfl⟩
    have hRl : R.length = n - at_ := by rw [eR, List.length_drop, EN.out]
    rw [← eR] at e1 e2 e3
    have A1 : Calls Tryd.prog 141 #[.slice ad n cap, .int .i64 at_] wr (NextTo wr R at_) := by
      rw [eR]; exact c_nextAt at_ wr (ft_gr HF.out hg) (row_gr HR.out hg) (by rw [← EN.out]; exact ha) (by rw [← EN.out]; exact hl)
    have hdr : nx R = 0 → L.drop (at_ + nxLen R) = R.drop (nxLen R) := fun _ => by rw [eR, List.drop_drop]
    have H1 := Lib.hid A1
    have HE := Lib.hid (And.intro e1 (And.intro e2 (And.intro e3 (And.intro hRl hdr))))
    have HO := Lib.hid hO
    clear e1 e2 e3 eR hRl A1 hO hdr
    go_wp2_with fail
    go_at_call 141
    (with_reducible refine H1.out.mono ?_)
    rintro e w1 ⟨q, x, rfl, own1, fe, g1⟩
    obtain ⟨qa, qn, qc, rfl⟩ := own_slice own1
    have G1 := Gr.trans hg g1
    by_cases c0 : nx R = 0
    · rw [c0] at fe
      obtain rfl := ferr_0 fe
      obtain ⟨s1, s2, s3⟩ := sc_ok c0
      have z1 := nx_zero c0
      have z2 := nxLen_ok c0
      have z3 := HE.out.2.2.2.1
      obtain ⟨m, em⟩ : ∃ m, m = nxLen R := ⟨_, rfl⟩
      rw [← em] at s1 s2 s3 z2 ⊢
      have hm1 : 8 ≤ m := by omega
      have hm2 : at_ + m ≤ n := by omega
      have f1 : scRows L = (rows ++ [nxRow R]) ++ scRows (L.drop (at_ + m)) := by rw [HE.out.1, s1, em, HE.out.2.2.2.2 c0, List.append_assoc]; rfl
      have f2 : scEnd L = (at_ + m) + scEnd (L.drop (at_ + m)) := by rw [HE.out.2.1, s2, em, HE.out.2.2.2.2 c0]; omega
      have f3 : scCode L = scCode (L.drop (at_ + m)) := by rw [HE.out.2.2.1, s3, em, HE.out.2.2.2.2 c0]
      have HN := Lib.hid (And.intro f1 (And.intro f2 f3))
      have hO1 := ownRws_gr HO.out g1
      obtain ⟨vs, hvs, hel⟩ := hO1
      have hqd : ∀ k, (Value.slice qa qn qc).ownBlock = some k → u2.ownBlock ≠ some k := fun k hk hk' => by
        have h1 := own_row own1 k hk
        obtain ⟨vs0, hvs0, -⟩ := HO.out
        rcases hvs0.2 with ⟨rfl, -⟩ | ⟨g, cap, cur, rfl, hb, hg', -⟩
        · cases hk'
        · simp [Value.ownBlock] at hk'
          have := (Array.getElem?_eq_some_iff.1 hg').1
          omega
      have hq2 : Own w1 W.heap.size (.slice qa qn qc) (nxRow R) := own_base own1 hg.size
      have HV := Lib.hid (And.intro hvs (And.intro hel (And.intro hq2 hqd)))
      have hs1 : ((at_ : Int) + (m : Int)) ≤ 1000000 := by omega
      have hm3 : (m : Int) ≤ 1000000 := by omega
      have ha3 : (at_ : Int) ≤ 1000000 := by omega
      clear s1 s2 s3 z1 z2 z3 f1 f2 f3 em hvs hel own1 fe hqd hq2
      go_wp2_with (first | (at_builtin; (refine wpList_append_own2 _ rfl (.tmp 21) (.tmp 23) 108 rfl W.heap.size 79 i0 (.slice none 0 0) 1 24 Tryd.underlying108 HI.out.1 HI.out.2.1 HI.out.2.2.1 HI.out.2.2.2 rfl (by decide) u2 rows.length vs rfl (World.ownsRow.alloc HV.out.1 _) ⟨w1.heap.size, 0, none⟩ 1 1 [.slice qa qn qc] rfl rfl (cell_one_new _ _ _) (by intro u hu; (simp at hu); subst hu; exact (own_one HV.out.2.2.1)) (by unfold maxLen; omega) (by omega) (by have := G1.size; simp; omega) ?_); intro v2 w2 own2 gr2))
      have GA : Gr w1 (w1.alloc (.cells #[.slice qa qn qc] 79)) := by go_grown
      have O2 : OwnRws w2 W.heap.size v2 (rows ++ [nxRow R]) := rws_next (World.ownsRow.alloc HV.out.1 _) own2 gr2 (fun j hj => by
        obtain ⟨x, e, o, d⟩ := HV.out.2.1 j hj
        exact ⟨x, e, own_gr' o GA, d⟩) (own_gr' HV.out.2.2.1 GA) HV.out.2.2.2
      have hb0 : ∀ k, u2.ownBlock = some k → W.heap.size ≤ k := fun k hk => by
        rcases HV.out.1.2 with ⟨rfl, -⟩ | ⟨g, cap, cur, rfl, hb, -⟩
        · cases hk
        · simp [Value.ownBlock] at hk; omega
      have G2 : Gr W w2 := gr2.gr (Gr.trans G1 GA) hb0
      have HO2 := Lib.hid O2
      clear O2 own2 gr2 hb0 GA
      go_wp2_with fail
      go_roundg (n - (at_ + m))
      case measure => omega
      case rel => exact ⟨at_ + m, rows ++ [nxRow R], by go_num, hm2, rfl, HN.out.1, HN.out.2.1, HN.out.2.2, HO2.out, by simp; omega, G2⟩
    · obtain ⟨B1, rfl, hFa⟩ := ferr_k fe c0
      obtain ⟨s1, s2, s3⟩ := sc_no c0
      have hO1 := ownRws_gr HO.out g1
      have hb1 := World.block_lt_of_cell? _ _ hFa.1
      by_cases c1 : at_ = n
      · have hR0 : R.length = 0 := by rw [HE.out.2.2.2.1]; omega
        obtain rfl := List.eq_nil_of_length_eq_zero hR0
        rw [nx_nil] at hFa
        have hfin : scRows L = rows ∧ scEnd L = at_ ∧ scCode L = 0 := by
          refine ⟨by rw [HE.out.1, s1, List.append_nil], by rw [HE.out.2.1, s2]; rfl, by rw [HE.out.2.2.1, s3]; rfl⟩
        have HN := Lib.hid (And.intro hfin hO1)
        have C1 := Lib.hid (c_Is_fault B1 15 15 w1 hFa.2.2)
        have t1 : ((at_ : Int) == (n : Int)) = true := by simp; omega
        clear s1 s2 s3 hO1 hR0 hfin fe own1
        go_wp2_with fail
        go_at_call 48
        (with_reducible refine C1.out.mono ?_)
        rintro e w2 ⟨rfl, g2⟩
        have t2 : decide ((15 : Int) = 15) = true := decide_eq_true rfl
        go_wp2_with fail
        go_ret3
        obtain ⟨⟨k1, k2, k3⟩, k4⟩ := HN.out
        exact ⟨u2, .nilIface, by rw [k2, c1]; rfl, by rw [k1]; exact ownRws_gr k4 g2, Or.inl ⟨rfl, k3⟩, Gr.trans G1 g2⟩
      · have t1 : ((at_ : Int) == (n : Int)) = false := by simp; omega
        have hR0 : R.length ≠ 0 := by rw [HE.out.2.2.2.1]; omega
        have hfin : scRows L = rows ∧ scEnd L = at_ ∧ scCode L = nx R := by
          refine ⟨by rw [HE.out.1, s1, List.append_nil], by rw [HE.out.2.1, s2]; rfl, by rw [HE.out.2.2.1, s3, if_neg hR0]⟩
        have HN := Lib.hid (And.intro hfin (And.intro hO1 fe))
        clear s1 s2 s3 hO1 hR0 hfin fe own1
        go_wp2_with fail
        go_ret3
        obtain ⟨⟨k1, k2, k3⟩, k4, k5⟩ := HN.out
        exact ⟨u2, _, by rw [k2]; rfl, by rw [k1]; exact k4, by rw [k2, k3]; exact k5, G1⟩
end Go.Proofs.YtmcbanplpgooeaaDoor
