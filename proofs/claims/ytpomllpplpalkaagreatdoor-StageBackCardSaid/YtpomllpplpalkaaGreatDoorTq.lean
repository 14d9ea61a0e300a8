import Derived.Test.YtpomllpplpalkaaGreatDoorTo
import Derived.Test.YtpomllpplpalkaaGreatDoorTk
/- StageBack: the walk -/
namespace Go.Proofs.YtpomllpplpalkaaGreatDoor
set_option linter.unusedVariables false
set_option linter.unusedSimpArgs false
open Go.ChangeShapes Go.WideShapes Go.ChangeAt Go.RowKit Go.Maps

def bC (i : Nat) (v : Value) : MChg := ⟨1, i, (lo i).k, v, (lo i).n, (lo i).X, (lo i).Y⟩
theorem bC_st {D : Nat → MChg} {vs : Nat → Value} : ∀ n, n ≤ 12 → (∀ j, j < n → D j = bC j (vs j)) → stM D n = limS n
  | 0, _, _ => limS_0.symm
  | n + 1, hn, h => by
    show apS (stM D n) (D n).kd (D n).id (D n).k (D n).n (D n).X (D n).Y = _
    rw [h n (Nat.lt_succ_self _), bC_st n (by omega) (fun j hj => h j (by omega))]
    exact lim_aps n (by omega)
theorem netL_same (s : Int → Option MO) : ∀ l : List Int, netL s s l = []
  | [] => rfl
  | z :: l => by
    show netO z (s z) (s z) ++ netL s s l = []
    rw [netL_same s l, List.append_nil]
    cases s z with
    | none => rfl
    | some o => exact if_pos (sameM_rfl o)
theorem netO_self (z : Int) (a : Option MO) : netO z a a = [] := by
  cases a with
  | none => rfl
  | some o => exact if_pos (sameM_rfl o)
theorem netL_upd {s : Int → Option MO} {z : Int} {v : Option MO} : ∀ {l : List Int}, z ∉ l → netL s (updS s z v) l = []
  | [], _ => rfl
  | y :: l, h => by
    show netO y (s y) (updS s z v y) ++ netL s (updS s z v) l = []
    rw [netL_upd (fun q => h (List.mem_cons_of_mem _ q)), List.append_nil, show updS s z v y = s y from if_neg (fun e => h (by rw [e]; exact List.mem_cons_self))]
    exact netO_self y (s y)
theorem netL_one {s : Int → Option MO} {z : Int} {v : Option MO} : ∀ {l : List Int}, l.Pairwise (· < ·) → z ∈ l → netL s (updS s z v) l = netO z (s z) v
  | [], _, h => by cases h
  | y :: l, hp, h => by
    show netO y (s y) (updS s z v y) ++ netL s (updS s z v) l = _
    by_cases e : y = z
    · subst e
      rw [netL_upd (fun q => by have := (List.pairwise_cons.1 hp).1 y q; omega), List.append_nil, show updS s y v y = v from if_pos rfl]
    · rw [show updS s z v y = s y from if_neg e, netO_self, List.nil_append]
      exact netL_one (List.pairwise_cons.1 hp).2 (by
        rcases List.mem_cons.1 h with q | q
        · exact absurd q.symm e
        · exact q)
theorem limS_some {n i : Nat} (h : i < n) : limS n i = some (lo i) := if_pos (by omega)
theorem lim_del {n i : Nat} (h : i < n) (hn : n ≤ 12) : apN (limS n) 2 (i : Nat) 0 0 (fun _ => 0) (fun _ => 0) = 0 ∧ apS (limS n) 2 (i : Nat) 0 0 (fun _ => 0) (fun _ => 0) = updS (limS n) i none := by
  have e : apN (limS n) 2 (i : Nat) 0 0 (fun _ => 0) (fun _ => 0) = 0 := by
    have hc : chgC 2 (i : Nat) 0 0 (fun _ => 0) (fun _ => 0) = 0 := by rw [chgC_2 (by omega) (by omega)]; exact if_neg (by decide)
    unfold apN
    rw [if_neg (fun h => h hc), if_neg (by decide), limS_some h]
    rfl
  exact ⟨e, by unfold apS; rw [if_neg (by rw [e]; decide), if_neg (by decide)]⟩
theorem lim_back {n i : Nat} (h : i < n) (hn : n ≤ 12) : apN (updS (limS n) i none) 1 (i : Nat) (lo i).k (lo i).n (lo i).X (lo i).Y = 0 ∧ apS (updS (limS n) i none) 1 (i : Nat) (lo i).k (lo i).n (lo i).X (lo i).Y = limS n := by
  have e : apN (updS (limS n) i none) 1 (i : Nat) (lo i).k (lo i).n (lo i).X (lo i).Y = 0 := by
    unfold apN
    rw [(lo_put i (by omega)).1, if_neg (fun h => h rfl), if_pos rfl, show updS (limS n) (i : Nat) none (i : Nat) = none from if_pos rfl]
    rfl
  refine ⟨e, ?_⟩
  unfold apS
  rw [if_neg (by rw [e]; decide), if_pos rfl]
  funext y
  unfold updS
  by_cases q : y = (i : Int)
  · rw [if_pos q, q]; exact (limS_some h).symm
  · rw [if_neg q, if_neg q]
theorem lo0_ok : chgC 1 500 (lo 0).k (lo 0).n (lo 0).X (lo 0).Y = 0 := by
  have := chg_gs (q := 0) (x := 0) (y := 0) (id := 500) (m := 1) (by decide) (by decide) (by decide) (by decide) (by decide) (by decide) (by decide) (by decide) (by decide)
  exact this
theorem lim_500 {n : Nat} (hn : n ≤ 12) : limS n 500 = none := if_neg (by omega)
theorem lim_p5 {n : Nat} (hn : n ≤ 12) : apN (limS n) 1 500 (lo 0).k (lo 0).n (lo 0).X (lo 0).Y = 0 ∧ apS (limS n) 1 500 (lo 0).k (lo 0).n (lo 0).X (lo 0).Y = updS (limS n) 500 (some (lo 0)) := by
  have e : apN (limS n) 1 500 (lo 0).k (lo 0).n (lo 0).X (lo 0).Y = 0 := by
    unfold apN
    rw [lo0_ok, if_neg (fun h => h rfl), if_pos rfl, lim_500 hn]
    rfl
  exact ⟨e, by unfold apS; rw [if_neg (by rw [e]; decide), if_pos rfl]⟩
theorem lim_d5 {n : Nat} (hn : n ≤ 12) : apN (updS (limS n) 500 (some (lo 0))) 2 500 0 0 (fun _ => 0) (fun _ => 0) = 0 ∧ apS (updS (limS n) 500 (some (lo 0))) 2 500 0 0 (fun _ => 0) (fun _ => 0) = limS n := by
  have e : apN (updS (limS n) 500 (some (lo 0))) 2 500 0 0 (fun _ => 0) (fun _ => 0) = 0 := by
    have hc : chgC 2 500 0 0 (fun _ => 0) (fun _ => 0) = 0 := by rw [chgC_2 (by omega) (by omega)]; exact if_neg (by decide)
    unfold apN
    rw [if_neg (fun h => h hc), if_neg (by decide), show updS (limS n) 500 (some (lo 0)) 500 = some (lo 0) from if_pos rfl]
    rfl
  refine ⟨e, ?_⟩
  unfold apS
  rw [if_neg (by rw [e]; decide), if_neg (by decide)]
  funext y
  unfold updS
  by_cases q : y = (500 : Int)
  · rw [if_pos q, q]; exact (lim_500 hn).symm
  · rw [if_neg q, if_neg q]
def farO : MO := ⟨shK 0, shN 0, gsX 0 900 900 ((2 : Nat) : Int), gsY 0 900 900 ((2 : Nat) : Int)⟩
theorem lim_far {n i : Nat} (h : i < n) (hn : n ≤ 12) : apN (updS (limS n) i none) 1 (i : Nat) farO.k farO.n farO.X farO.Y = 0 ∧ apS (updS (limS n) i none) 1 (i : Nat) farO.k farO.n farO.X farO.Y = updS (limS n) i (some farO) := by
  have hc : chgC 1 (i : Nat) farO.k farO.n farO.X farO.Y = 0 := chg_gs (q := 0) (x := 900) (y := 900) (id := (i : Nat)) (m := 2) (by decide) (by decide) (by decide) (by decide) (by decide) (by decide) (by decide) (by omega) (by omega)
  have e : apN (updS (limS n) i none) 1 (i : Nat) farO.k farO.n farO.X farO.Y = 0 := by
    unfold apN
    rw [hc, if_neg (fun h => h rfl), if_pos rfl, show updS (limS n) (i : Nat) none (i : Nat) = none from if_pos rfl]
    rfl
  refine ⟨e, ?_⟩
  unfold apS
  rw [if_neg (by rw [e]; decide), if_pos rfl]
  funext y
  unfold updS
  by_cases q : y = (i : Int)
  · rw [if_pos q, if_pos q]
  · rw [if_neg q, if_neg q, if_neg q]
theorem far_ne (i : Nat) (h : i < 12) : sameM (lo i) farO = false := by
  cases hs : sameM (lo i) farO with
  | false => rfl
  | true =>
    obtain ⟨h1, h2, h3⟩ := sameM_iff.1 hs
    have hk : shK (i % 4) = shK 0 := h1
    have h4 : i % 4 = 0 := by
      rcases (by omega : i % 4 = 0 ∨ i % 4 = 1 ∨ i % 4 = 2 ∨ i % 4 = 3) with e | e | e | e
      · exact e
      all_goals rw [e] at hk; exact absurd hk (by decide)
    have hx := (h3 0 (shN_pos (show i % 4 < 4 by omega)).1).1
    have hx2 : gsX (i % 4) i i ((i + 1 : Nat) : Int) 0 = 900 := hx
    rw [h4] at hx2
    have hx3 : (i : Int) = 900 := hx2
    omega
theorem two_of {L : List MChg} {x y : CS} (h : L.map chSem = [x, y]) : ∃ c0 c1, L = [c0, c1] ∧ chSem c0 = x ∧ chSem c1 = y := by
  match L, h with
  | [c0, c1], h =>
    simp only [List.map_cons, List.map_nil, List.cons.injEq, and_true] at h
    exact ⟨c0, c1, rfl, h.1, h.2⟩
def AllB (G : List CS) (i : Nat) : Prop := (∀ j, j < i → ∃ c, c ∈ G ∧ c.id = (j : Int))
theorem i64n {i : Nat} (h : i ≤ 1000) : i64R (i : Nat) := by unfold i64R; omega
section
variable {P w : World} {N : Nat} {Q : Nat → Nat} {M : Nat → Option Nat} {S : Nat} {G : List CS} {s t : Int → Option MO}
theorem back_ok {e : Ending} {w' : World} {c : CS} {t' : Int → Option MO} (h : DoTo P N 3 Q (tr3 s s t) S 1 2 true G c e w') (hl : G.length < 32) (h1 : apN t c.kd c.id c.o.k c.o.n c.o.X c.o.Y = 0) (h2 : apS t c.kd c.id c.o.k c.o.n c.o.X c.o.Y = t') : ∃ M', e = .returned .nilIface ∧ StF P w' (N + 1) 3 Q M' (tr3 s s t') S 1 2 true (G ++ [c]) := by
  obtain ⟨M', e1, F⟩ := doTo_ok h (show doC true G t c = 0 by unfold doC; rw [if_neg (by decide), if_neg (by omega)]; exact h1)
  exact ⟨M', e1, F.as (fun i hi => by
    rcases (by omega : i = 0 ∨ i = 1 ∨ i = 2) with rfl | rfl | rfl
    · rfl
    · rfl
    · exact h2)⟩
end
set_option maxHeartbeats 16000000 in
set_option maxRecDepth 100000 in
theorem back_core (n : Nat) (hn1 : 1 ≤ n) (hn : n ≤ 12) (z : Int) (hz : i64R z) (W : World) (hE : ErrT W) : Calls Tryz.prog 4 #[.int .i64 (n : Nat), .int .i64 z] W fun e w' => e = .returned (.bool true) ∧ Gr W w' := by
  obtain ⟨i0, hi0, hz0, hz1, hz2⟩ := info_parts (P := Tryz.prog) (e := 43) (z := .agg #[.int .i64 0, .int .i64 0, .slice none 0 0]) (size := 3) (bytes := 40) (by kernel_rfl)
  have HI := Lib.hid (And.intro hi0 (And.intro hz0 (And.intro hz1 hz2)))
  clear hi0 hz0 hz1 hz2
  have HE := Lib.hid hE
  have hn9 : (n : Int) ≤ 12 := by omega
  have t1 : decide ((n : Int) < 1) = false := decide_eq_false (by omega)
  have t2 : decide ((12 : Int) < (n : Int)) = false := decide_eq_false (by omega)
  have HZ := Lib.hid hz
  clear hE hz
  have HR0 := Lib.hid (World.ownsRow_nil W W.heap.size 43 3)
  go_enter Tryz.func4, Tryz.ntmps4
  go_wp2_with fail
  go_loopg [5, 6] n (fun m a x wr => ∃ (i : Nat) (vs : Nat → Value), x = .int .i64 i ∧ i ≤ n ∧ m = n - i ∧ Hid (wr.ownsRow W.heap.size 43 3 a i (itCs ((List.range i).map (fun j => bC j (vs j))))) ∧ Hid (∀ j, j < i → PtsF wr W.heap.size (vs j) (lo j).n (lo j).X (lo j).Y) ∧ Hid (Gr W wr))
  case atStart => exact ⟨0, fun _ => .nilIface, rfl, Nat.zero_le _, by omega, HR0, Lib.hid (fun j hj => absurd hj (Nat.not_lt_zero _)), Lib.hid (Below.refl _ _)⟩
  case round =>
    obtain ⟨i, vs, rfl, hi, hk, HR, HPs, HG⟩ := hrel
    by_cases hlt : i < n
    · have ti : decide ((i : Int) < (n : Int)) = true := decide_eq_true (by omega)
      have ti2 : decide (i < n) = true := decide_eq_true hlt
      have ti3 : (i : Int) < (n : Int) := by omega
      have ti4 : (i : Int) ≤ 12 := by omega
      have hmm2 : n - (i + 1) < gk := by omega
      obtain ⟨-, hln, AS⟩ := lo_put i (by omega)
      have AS := Lib.hid AS
      have hwr := HG.out.size
      go_wp2_with fail
      go_at_call 16
      refine (AS.out _).mono ?_
      rintro e w3 ⟨B, rfl, hp, hB, g3, hf⟩
      have HP3 : Hid (PtsF w3 W.heap.size (.slice (some ⟨B, 0, none⟩) (lo i).n (lo i).n) (lo i).n (lo i).X (lo i).Y) := Lib.hid ⟨hp, fun _ => ⟨B, _, rfl, hf, by omega⟩⟩
      have HG3 := Lib.hid g3
      have h3 := g3.size
      clear hp hf g3 hB
      go_wp2_with (at_builtin; go_loud ((refine wpList_append_own2 _ rfl (.tmp 25) (.tmp 33) 41 rfl W.heap.size 43 i0 (.agg #[.int .i64 0, .int .i64 0, .slice none 0 0]) 3 40 Tryz.underlying41 HI.out.1 HI.out.2.1 HI.out.2.2.1 HI.out.2.2.2 rfl (by decide) u5 i (itCs ((List.range i).map (fun j => bC j (vs j)))) rfl (rowOwn_gr HR.out (Gr.trans HG3.out ((Below.refl _ _).alloc (Nat.le_refl _) _))) ⟨w3.heap.size, 0, none⟩ 1 1 [.int .i64 (i : Nat), .int .i64 (lo i).k, .slice (some ⟨B, 0, none⟩) (lo i).n (lo i).n] rfl rfl (cells_newT _ _ _ _ rfl) (by intro u hu; simp only [List.mem_cons, List.not_mem_nil, or_false] at hu; rcases hu with rfl | rfl | rfl <;> rfl) (by unfold maxLen; omega) (by omega) (by simp; omega) ?_); intro x4 w4 o4 g4; (have HO4 := Lib.hid (And.intro o4 g4)); clear o4 g4))
      have G4 : Gr wr (w3.alloc (.cells #[.int .i64 (i : Nat), .int .i64 (lo i).k, .slice (some ⟨B, 0, none⟩) (lo i).n (lo i).n] 43)) := Gr.trans HG3.out ((Below.refl _ _).alloc (Nat.le_refl _) _)
      have hty : ∀ B, Fr2 (w3.alloc (.cells #[.int .i64 (i : Nat), .int .i64 (lo i).k, .slice (some ⟨B, 0, none⟩) (lo i).n (lo i).n] 43)) B → True := fun _ _ => trivial
      have HNT : Hid (∀ x, u5.ownBlock = some x → NoTy (w3.alloc (.cells #[.int .i64 (i : Nat), .int .i64 (lo i).k, .slice (some ⟨B, 0, none⟩) (lo i).n (lo i).n] 43)) x 58) := Lib.hid (fun x hx => by
        obtain ⟨-, cur, hc⟩ := own_tyC (rowOwn_gr HR.out G4) hx
        exact noTy_of hc (by decide))
      have HG4 := Lib.hid G4
      clear G4 hty
      go_roundg (n - (i + 1))
      case measure => omega
      case rel =>
        refine ⟨i + 1, fun j => if j = i then .slice (some ⟨B, 0, none⟩) (lo i).n (lo i).n else vs j, by go_num, by omega, rfl, Lib.hid ?_, Lib.hid (fun j hj => ?_), Lib.hid (HO4.out.2.gr (Gr.trans HG.out HG4.out) (fun k hk => (World.ownsRow.lt HR.out k hk).1))⟩
        · have hm : (List.range i).map (fun j => bC j (if j = i then .slice (some ⟨B, 0, none⟩) (lo i).n (lo i).n else vs j)) = (List.range i).map (fun j => bC j (vs j)) := List.map_congr_left (fun j hj => by
            have := List.mem_range.1 hj
            rw [if_neg (by omega)])
          rw [List.range_succ, List.map_append, hm, itCs_app]
          show _ ∧ _
          simp only [List.map_cons, List.map_nil, if_true, itCs_one]
          exact HO4.out.1
        · by_cases e : j = i
          · subst e
            simp only [if_true]
            exact ptsF_ty (ptsF_gr HP3.out ((Below.refl _ _).alloc (Nat.le_refl _) _)) (kx_grown HO4.out.2) (fun B' hf hx => fr2_no hf (HNT.out _ hx) rfl)
          · simp only [e, if_false]
            exact ptsF_ty (ptsF_gr (HPs.out j (by omega)) HG4.out) (kx_grown HO4.out.2) (fun B' hf hx => fr2_no hf (HNT.out _ hx) rfl)
    · obtain rfl : i = n := by omega
      have ti : decide ((i : Int) < (i : Int)) = false := decide_eq_false (by omega)
      have ti2 : decide (i < i) = false := decide_eq_false (by omega)
      obtain ⟨ad, cap, rfl, hcp, hcp2⟩ := own_any HR.out
      have hits : Its wr (.slice ad i cap) i (fun j => bC j (vs j)) := by
        rcases HR.out.2 with ⟨e, e2⟩ | ⟨g, cp, cur, e, hb, hg, hn', hc, hs, ht⟩
        · simp only [Value.slice.injEq] at e
          omega
        · simp only [Value.slice.injEq, true_and] at e
          obtain ⟨rfl, rfl⟩ := e
          refine ⟨_, cap, g, 0, rfl, hcp, hcp2, fun _ => rfl, fun q hq => ?_⟩
          obtain ⟨a0, a1, a2⟩ := itCs_get ((List.range i).map (fun j => bC j (vs j))) q (by simpa using hq)
          have eg : ((List.range i).map (fun j => bC j (vs j))).getD q MChg.nul = bC q (vs q) := by
            rw [List.getD_eq_getElem?_getD, List.getElem?_map, List.getElem?_range hq]
            rfl
          rw [eg] at a0 a1 a2
          refine ⟨?_, ?_, ?_, (HPs.out q hq).1, i64n (by omega), rfl⟩
          · rw [Nat.zero_add, HR.out.cellAt _ (by omega)]; exact a0
          · rw [Nat.zero_add, HR.out.cellAt _ (by omega)]; exact a1
          · rw [Nat.zero_add, HR.out.cellAt _ (by omega)]; exact a2
      have hst : stM (fun j => bC j (vs j)) i = limS i := bC_st i hn (fun j _ => rfl)
      have HIt := Lib.hid hits
      have HGW := Lib.hid HG.out
      obtain ⟨ad0, cap0, Bb, off, ea0, -, -, hA, hX⟩ := hits
      simp only [Value.slice.injEq, true_and] at ea0
      obtain ⟨rfl, rfl⟩ := ea0
      obtain rfl := hA (by omega)
      have HX := Lib.hid hX
      have AM := Lib.hid (st_made (by omega) wr HIt.out)
      rw [hst] at AM
      obtain ⟨P, eP⟩ : ∃ P, P = wr := ⟨_, rfl⟩
      subst eP
      clear hk hst HR HPs hA hX HG hi hcp2 t1 t2
      go_wp2_with fail
      go_at_call 20
      refine (AM.out).mono ?_
      rintro e w1 ⟨Q1, X1, M1, L1, rfl, F1, -⟩
      have AN := Lib.hid (st_New (b := 0) (by decide) F1)
      clear F1 AM
      go_wp2_with fail
      go_at_call 11
      refine (AN.out).mono ?_
      rintro e w2 ⟨S, Q, M2, rfl, -, F2⟩
      have HF2 : Hid (StF P w2 i 3 Q M2 (tr3 (limS i) (limS i) (limS i)) S 1 2 true []) := Lib.hid (F2.as (fun a ha => by
        rcases (by omega : a = 0 ∨ a = 1 ∨ a = 2) with rfl | rfl | rfl <;> rfl))
      clear F2 AN
      go_wp2_with fail
      go_loopg [11] i (fun m x wq => ∃ (q : Nat) (M : Nat → Option Nat) (G : List CS), x = .int .i64 q ∧ q ≤ i ∧ m = i - q ∧ Hid (G.length = 2 * q ∧ AllB G q ∧ StF P wq (i + 2 * q) 3 Q M (tr3 (limS i) (limS i) (limS i)) S 1 2 true G))
      case atStart => exact ⟨0, M2, [], rfl, Nat.zero_le _, by omega, Lib.hid ⟨rfl, fun j hj => absurd hj (Nat.not_lt_zero _), HF2.out⟩⟩
      case round =>
        obtain ⟨q, M, G, rfl, hq, hk, HF⟩ := hrel
        have hGl : G.length ≤ 24 := by have := HF.out.1; omega
        by_cases hqt : q < i
        · have ti : decide ((q : Int) < (i : Int)) = true := decide_eq_true (by omega)
          have ti2 : decide (q < i) = true := decide_eq_true hqt
          have ti3 : (q : Int) < (i : Int) := by omega
          have ti4 : (q : Int) < (cap : Int) := by omega
          have ti5 : (q : Int) ≤ 12 := by omega
          have hmm2 : i - (q + 1) < gk := by omega
          obtain ⟨-, q1, q2, q3, -, -⟩ := HX.out q hqt
          obtain ⟨vq, hvq⟩ : ∃ vq, vq = vs q := ⟨_, rfl⟩
          have hb : (bC q (vs q)).v = vq := hvq.symm
          rw [hb] at q2 q3
          have q1' : P.cell? ⟨Bb, off + q * 3 + 1, none⟩ = some (.int .i64 (lo q).k) := q1
          have q3' : Pts P vq (lo q).n (lo q).X (lo q).Y := q3
          have HP3 := Lib.hid q3'
          obtain ⟨kq, hkq⟩ : ∃ kq, kq = (lo q).k := ⟨_, rfl⟩
          obtain ⟨nq, hnq⟩ : ∃ nq, nq = (lo q).n := ⟨_, rfl⟩
          rw [← hkq] at q1'
          rw [← hnq] at q3' HP3
          have HKN := Lib.hid (And.intro hkq hnq)
          have hn4 : nq ≤ 4 := by rw [hnq]; exact (lo_put q (by omega)).2.1
          clear hvq hb q1 hkq hnq
          obtain ⟨pad, pcap, _, _, rfl, _⟩ := q3'
          have HC := Lib.hid (And.intro q1' q2)
          have AD := Lib.hid (st_Del (i64n (show q ≤ 1000 by omega)) (by omega) (by omega) HF.out.2.2)
          clear q1' q2 q3
          go_wp2_with fail
          go_at_call 21
          refine (AD.out).mono ?_
          intro e w3 h3
          obtain ⟨M3, rfl, F3⟩ := back_ok h3 (by omega) (lim_del hqt hn).1 (lim_del hqt hn).2
          have AP := Lib.hid (st_Put (kk := kq) (n := nq) (v := .slice pad nq pcap) (i64n (show q ≤ 1000 by omega)) (by omega) (by rw [List.length_append]; show _ + 1 ≤ _; omega) (by omega) F3 (pts_gr HP3.out F3.fam.gr))
          have p1 := cell_gr F3.fam.gr HC.out.1
          have p2 := cell_gr F3.fam.gr HC.out.2
          have p3 : w3.cell? ⟨Bb, off + q * 3 + 1 + 1, none⟩ = some (.slice pad nq pcap) := p2
          have zB := World.block_lt_of_cell? _ _ p1
          clear h3 F3 AD
          go_wp2_with fail
          go_at_call 15
          refine (AP.out).mono ?_
          intro e w4 h4
          rw [HKN.out.1, HKN.out.2] at h4
          obtain ⟨M4, rfl, F4⟩ := back_ok h4 (by rw [List.length_append]; show _ + 1 < _; omega) (lim_back hqt hn).1 (lim_back hqt hn).2
          have HF4 := Lib.hid F4
          clear h4 F4 AP p1 p2 p3 zB
          go_wp2_with fail
          go_roundg (i - (q + 1))
          case measure => omega
          case rel => exact ⟨q + 1, M4, _, by go_num, by omega, rfl, Lib.hid ⟨by rw [List.length_append, List.length_append, HF.out.1]; show _ + 1 + 1 = _; omega, fun j hj => by
            by_cases e : j = q
            · subst e
              exact ⟨delC (j : Nat), List.mem_append_left _ (List.mem_append_right _ List.mem_cons_self), rfl⟩
            · obtain ⟨c, h1, h2⟩ := HF.out.2.1 j (by omega)
              exact ⟨c, List.mem_append_left _ (List.mem_append_left _ h1), h2⟩, HF4.out⟩⟩
        · obtain rfl : q = i := by omega
          have ti : decide ((q : Int) < (q : Int)) = false := decide_eq_false (by omega)
          have ti2 : decide (q < q) = false := decide_eq_false (by omega)
          have AN1 := Lib.hid (st_Net HF.out.2.2 (by omega))
          clear hk HF2
          go_wp2_with fail
          go_at_call 22
          refine (AN1.out).mono ?_
          rintro e w3 ⟨l, -, -, h3⟩
          obtain ⟨ad3, cp3, rfl, g3⟩ := chgsTo_len h3
          rw [show (netL (tr3 (limS q) (limS q) (limS q) 1) (tr3 (limS q) (limS q) (limS q) 2) l) = [] from netL_same (limS q) l]
          have HF3 := Lib.hid (HF.out.2.2.to g3)
          clear h3 g3 AN1
          obtain ⟨-, q1, q2, q3, -, -⟩ := HX.out 0 (by omega)
          obtain ⟨vq, hvq⟩ : ∃ vq, vq = vs 0 := ⟨_, rfl⟩
          have hb : (bC 0 (vs 0)).v = vq := hvq.symm
          rw [hb] at q2 q3
          have q1' : P.cell? ⟨Bb, off + 1, none⟩ = some (.int .i64 (lo 0).k) := by simpa [bC] using q1
          have q2' : P.cell? ⟨Bb, off + 2, none⟩ = some vq := by simpa using q2
          have q3' : Pts P vq (lo 0).n (lo 0).X (lo 0).Y := q3
          have HP3 := Lib.hid q3'
          obtain ⟨kq, hkq⟩ : ∃ kq, kq = (lo 0).k := ⟨_, rfl⟩
          obtain ⟨nq, hnq⟩ : ∃ nq, nq = (lo 0).n := ⟨_, rfl⟩
          rw [← hkq] at q1'
          rw [← hnq] at q3' HP3
          have HKN := Lib.hid (And.intro hkq hnq)
          have hn4 : nq ≤ 4 := by rw [hnq]; exact (lo_put 0 (by omega)).2.1
          clear hvq hb q1 hkq hnq q2
          obtain ⟨pad, pcap, _, _, rfl, _⟩ := q3'
          have p1 := cell_gr HF3.out.fam.gr q1'
          have p2 := cell_gr HF3.out.fam.gr q2'
          have p3 : w3.cell? ⟨Bb, off + 1 + 1, none⟩ = some (.slice pad nq pcap) := p2
          have zB := World.block_lt_of_cell? _ _ p1
          have tc0 : (0 : Int) < (q : Int) := by omega
          have tc1 : (0 : Int) < (cap : Int) := by omega
          have AP := Lib.hid (st_Put (id := 500) (kk := kq) (n := nq) (v := .slice pad nq pcap) (i64n (show 500 ≤ 1000 by omega)) (by omega) (by omega) (by omega) HF3.out (pts_gr HP3.out HF3.out.fam.gr))
          clear q1' q2' q3
          go_wp2_with fail
          go_at_call 15
          refine (AP.out).mono ?_
          intro e w4 h4
          rw [HKN.out.1, HKN.out.2] at h4
          obtain ⟨M4, rfl, F4⟩ := back_ok h4 (by omega) (lim_p5 hn).1 (lim_p5 hn).2
          have AD := Lib.hid (st_Del (id := 500) (i64n (show 500 ≤ 1000 by omega)) (by omega) (by rw [List.length_append]; show _ + 1 ≤ _; omega) F4)
          clear h4 F4 AP p1 p2 p3 zB
          go_wp2_with fail
          go_at_call 21
          refine (AD.out).mono ?_
          intro e w5 h5
          obtain ⟨M5, rfl, F5⟩ := back_ok h5 (by rw [List.length_append]; show _ + 1 < _; omega) (lim_d5 hn).1 (lim_d5 hn).2
          obtain ⟨G5, hG5⟩ : ∃ G5, G5 = G ++ [⟨1, 500, lo 0⟩] ++ [delC 500] := ⟨_, rfl⟩
          have HF5 : Hid (G5.length = 2 * q + 2 ∧ AllB G5 q ∧ StF P w5 (q + 2 * q + 1 + 1) 3 Q M5 (tr3 (limS q) (limS q) (limS q)) S 1 2 true G5) := Lib.hid ⟨by rw [hG5, List.length_append, List.length_append, HF.out.1]; rfl, fun j hj => by
            obtain ⟨c, h1, h2⟩ := HF.out.2.1 j hj
            exact ⟨c, by rw [hG5]; exact List.mem_append_left _ (List.mem_append_left _ h1), h2⟩, by rw [hG5]; exact F5⟩
          have hG5l : G5.length ≤ 26 := by have := HF5.out.1; omega
          have AN2 := Lib.hid (st_Net HF5.out.2.2 (by omega))
          clear h5 F5 AD hG5
          go_wp2_with fail
          go_at_call 22
          refine (AN2.out).mono ?_
          rintro e w6 ⟨l, -, -, h6⟩
          obtain ⟨ad6, cp6, rfl, g6⟩ := chgsTo_len h6
          rw [show (netL (tr3 (limS q) (limS q) (limS q) 1) (tr3 (limS q) (limS q) (limS q) 2) l) = [] from netL_same (limS q) l]
          have HF6 := Lib.hid (HF5.out.2.2.to g6)
          clear h6 g6 AN2
          go_wp2_with fail
          go_at_call 23
          refine (c_RoundE z HZ.out.1 HZ.out.2 q (by omega) (by omega) _).mono ?_
          rintro e w7 ⟨rfl, g7⟩
          obtain ⟨a, ea, hai⟩ : ∃ a : Nat, z % (q : Int) = (a : Int) ∧ a < q := by
            have r1 := Int.emod_nonneg z (show (q : Int) ≠ 0 by omega)
            have r2 := Int.emod_lt_of_pos z (show (0 : Int) < (q : Int) by omega)
            exact ⟨(z % (q : Int)).toNat, by omega, by omega⟩
          rw [ea]
          have HF7 := Lib.hid (HF6.out.to g7)
          have AD7 := Lib.hid (st_Del (i64n (show a ≤ 1000 by omega)) (by omega) (by omega) HF7.out)
          clear g7 ea
          go_wp2_with fail
          go_at_call 21
          refine (AD7.out).mono ?_
          intro e w8 h8
          obtain ⟨M8, rfl, F8⟩ := back_ok h8 (by omega) (lim_del hai hn).1 (lim_del hai hn).2
          have HF8 := Lib.hid F8
          clear h8 F8 AD7
          obtain ⟨q4, m4, hq4, e41, e42, -, AS⟩ := gs_put 0 900 900 1 0 (by decide) (by decide) (by decide) (by decide) (by decide) (by decide) (by decide) (by decide) (by decide)
          obtain rfl : q4 = 0 := by omega
          obtain rfl : m4 = 2 := by omega
          have AS := Lib.hid AS
          clear hq4 e41 e42
          go_wp2_with fail
          go_at_call 16
          refine (AS.out _).mono ?_
          rintro e w9 ⟨B, rfl, hp, hB, g9, -⟩
          have AP9 := Lib.hid (st_Put (kk := shK 0) (n := shN 0) (v := .slice (some ⟨B, 0, none⟩) (shN 0) (shN 0)) (i64n (show a ≤ 1000 by omega)) (by omega) (by rw [List.length_append]; show _ + 1 ≤ _; omega) (by decide) (HF8.out.to g9) hp)
          clear hp hB g9
          go_wp2_with fail
          go_at_call 15
          refine (AP9.out).mono ?_
          intro e w10 h10
          obtain ⟨M10, rfl, F10⟩ := back_ok (c := ⟨1, (a : Nat), farO⟩) h10 (by rw [List.length_append]; show _ + 1 < _; omega) (lim_far hai hn).1 (lim_far hai hn).2
          obtain ⟨G10, hG10⟩ : ∃ G10, G10 = G5 ++ [delC (a : Nat)] ++ [⟨1, (a : Nat), farO⟩] := ⟨_, rfl⟩
          have HF10 : Hid (G10.length = 2 * q + 4 ∧ (∃ c, c ∈ G10 ∧ c.id = (a : Int)) ∧ StF P w10 (q + 2 * q + 1 + 1 + 1 + 1) 3 Q M10 (tr3 (limS q) (limS q) (updS (limS q) a (some farO))) S 1 2 true G10) := Lib.hid ⟨by rw [hG10, List.length_append, List.length_append, HF5.out.1]; rfl, ⟨delC (a : Nat), by rw [hG10]; exact List.mem_append_left _ (List.mem_append_right _ List.mem_cons_self), rfl⟩, by rw [hG10]; exact F10⟩
          have hGl2 : G10.length ≤ 28 := by have := HF10.out.1; omega
          have AN3 := Lib.hid (st_Net HF10.out.2.2 (by omega))
          have AC := Lib.hid (fun w' (g : Gr w10 w') => st_Changes (HF10.out.2.2.to g) (by omega))
          clear h10 F10 AP9 hG10
          go_wp2_with fail
          go_at_call 22
          refine (AN3.out).mono ?_
          rintro e w11 ⟨l, hl, -, v11, L11, rfl, hr, hL, g11⟩
          have hnet : netL (tr3 (limS q) (limS q) (updS (limS q) a (some farO)) 1) (tr3 (limS q) (limS q) (updS (limS q) a (some farO)) 2) l = [delC (a : Nat), putC (a : Nat) farO] := by
            show netL (limS q) (updS (limS q) a (some farO)) l = _
            rw [netL_one hl.1 ((hl.2 _).2 ⟨i64n (by omega), HF10.out.2.1⟩), limS_some hai]
            exact if_neg (by rw [far_ne a (by omega)]; decide)
          rw [hnet] at hL
          obtain ⟨c0, c1, rfl, hc0, hc1⟩ := two_of hL
          obtain ⟨ad11, cp11, rfl, hcp11, -⟩ := own_any hr.own
          obtain ⟨D11, hD11⟩ := chRow_at hr
          obtain ⟨rfl, x0, x1, -⟩ := hD11 0 (by show 0 < 2; decide)
          obtain ⟨-, x4, x5, -⟩ := hD11 1 (by show 1 < 2; decide)
          have y0 : w11.cell? ⟨D11, 0, none⟩ = some (.int .i64 2) := by
            have h : (([c0, c1] : List MChg).getD 0 MChg.nul).kd = 2 := congrArg CS.kd hc0
            rw [h] at x0; simpa using x0
          have y1 : w11.cell? ⟨D11, 1, none⟩ = some (.int .i64 (a : Nat)) := by
            have h : (([c0, c1] : List MChg).getD 0 MChg.nul).id = (a : Nat) := congrArg CS.id hc0
            rw [h] at x1; simpa using x1
          have y4 : w11.cell? ⟨D11, 4, none⟩ = some (.int .i64 1) := by
            have h : (([c0, c1] : List MChg).getD 1 MChg.nul).kd = 1 := congrArg CS.kd hc1
            rw [h] at x4; simpa using x4
          have y5 : w11.cell? ⟨D11, 5, none⟩ = some (.int .i64 (a : Nat)) := by
            have h : (([c0, c1] : List MChg).getD 1 MChg.nul).id = (a : Nat) := congrArg CS.id hc1
            rw [h] at x5; simpa using x5
          have zD := World.block_lt_of_cell? _ _ y0
          have tc2 : (1 : Int) < (cp11 : Int) := by have h : ([c0, c1] : List MChg).length = 2 := rfl; omega
          have tc3 : (0 : Int) < (cp11 : Int) := by omega
          have e2 : ([c0, c1] : List MChg).length = 2 := rfl
          rw [e2]
          have HG11 := Lib.hid g11
          have ta : ((a : Int) == (a : Int)) = true := beq_self_eq_true _
          obtain ⟨u, hu⟩ : ∃ u : Nat, u = 2 * q := ⟨_, rfl⟩
          obtain ⟨y, hy⟩ : ∃ y : Nat, y = 2 * q + 4 := ⟨_, rfl⟩
          have ew1 : wrap64 (2 * (q : Int)) = (u : Int) := (wr_small (by omega)).trans (by omega)
          have ew2 : IntKind.i64.wrap (2 * (q : Int)) = (u : Int) := (wk_small (by omega)).trans (by omega)
          have ew3 : wrap64 ((u : Int) + 4) = (y : Int) := (wr_small (by omega)).trans (by omega)
          have ew4 : IntKind.i64.wrap ((u : Int) + 4) = (y : Int) := (wk_small (by omega)).trans (by omega)
          have hgy : G10.length = y := HF10.out.1.trans hy.symm
          have HGY := Lib.hid hgy
          have tu : ((y : Int) == (y : Int)) = true := beq_self_eq_true _
          clear x0 x1 x4 x5 hD11 hr hL g11 hl hnet AN3 hc0 hc1 hcp11 hu hy hgy e2
          go_wp2_with fail
          go_at_call 17
          refine (AC.out _ HG11.out).mono ?_
          intro e w12 h12
          obtain ⟨ad12, cp12, rfl, g12⟩ := chgsTo_len h12
          rw [HGY.out]
          have HG12 := Lib.hid (Gr.trans HGW.out (Gr.trans HF10.out.2.2.fam.gr (Gr.trans HG11.out g12)))
          have AW := Lib.hid (p24_awake w12 (errT_gr HE.out HG12.out))
          clear h12 g12 AC
          go_wp2_with fail
          go_at_call 10
          refine (AW.out).mono ?_
          rintro e w13 ⟨rfl, g13⟩
          go_wp2_with fail
          go_ret
          exact ⟨rfl, Gr.trans HG12.out g13⟩
end Go.Proofs.YtpomllpplpalkaaGreatDoor
/- StageBack: all arguments -/
namespace Go.Proofs.YtpomllpplpalkaaGreatDoor
set_option linter.unusedVariables false
set_option linter.unusedSimpArgs false
open Go.ChangeShapes Go.WideShapes Go.ChangeAt Go.RowKit Go.Maps

theorem walk_StageBack (n z : Int) (hn : -9223372036854775808 ≤ n ∧ n ≤ 9223372036854775807) (hz : -9223372036854775808 ≤ z ∧ z ≤ 9223372036854775807) (W : World) (hE : ErrT W) : Calls Tryz.prog 4 #[.int .i64 n, .int .i64 z] W fun e w' => e = .returned (.bool true) ∧ Gr W w' := by
  have step : (decide (n < 1) = true) ∨ (decide (n < 1) = false ∧ decide ((12 : Int) < n) = true) ∨ (1 ≤ n ∧ n ≤ 12) := by
    by_cases c1 : n < 1
    · exact Or.inl (decide_eq_true c1)
    by_cases c2 : 12 < n
    · exact Or.inr (Or.inl ⟨decide_eq_false c1, decide_eq_true c2⟩)
    · exact Or.inr (Or.inr ⟨by omega, by omega⟩)
  have AW := Lib.hid (fun w (g : Gr W w) => p24_awake w (errT_gr hE g))
  rcases step with t1 | ⟨t1, t2⟩ | ⟨h1, h2⟩
  case inr.inr =>
    obtain ⟨i, rfl⟩ : ∃ i : Nat, n = i := ⟨n.toNat, by omega⟩
    exact back_core i (by omega) (by omega) z hz W hE
  all_goals
    clear hn hz hE
    go_enter Tryz.func4, Tryz.ntmps4
    go_wp2_with fail
    go_at_call 10
    refine (AW.out _ (Below.refl _ _)).mono ?_
    rintro e w1 ⟨rfl, g1⟩
    go_wp2_with fail
    go_ret
    exact ⟨rfl, g1⟩
end Go.Proofs.YtpomllpplpalkaaGreatDoor
