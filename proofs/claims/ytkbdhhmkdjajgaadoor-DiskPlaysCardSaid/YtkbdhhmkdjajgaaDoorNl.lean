/- the document's disk: Sync -/
import Derived.Test.YtkbdhhmkdjajgaaDoorNk
import Derived.BigRegion
namespace Go.Proofs.YtkbdhhmkdjajgaaDoor
set_option linter.unusedVariables false
set_option linter.unusedSimpArgs false
open Go.ChangeShapes Go.WideShapes Go.ChangeAt Go.RowKit Go.Maps

theorem syn_sec {d : Dk} (h : d.ok) {k : Nat} (hk : k < d.n) : sec (crG d (fun _ => 2) d.ord.length) k = d.read k := by
  obtain ⟨h1, h2⟩ := crG_sec h (fun _ => 2) d.ord.length (Nat.le_refl _) k hk
  unfold Dk.read
  by_cases hm : k ∈ d.ord
  · rw [if_pos hm]
    have hi := List.idxOf_lt_length_of_mem hm
    rw [h1 (d.ord.idxOf k) hi (by rw [List.getD_eq_getElem?_getD, List.getElem?_eq_getElem hi]; exact List.getElem_idxOf hi)]
    rfl
  · rw [if_neg hm]
    exact h2 (fun j hj e => hm (by rw [← e, List.getD_eq_getElem?_getD, List.getElem?_eq_getElem hj]; exact List.getElem_mem hj))
theorem crG_two {d : Dk} (h : d.ok) {i k : Nat} (hi : i < d.ord.length) (hk : k < d.n) : sec (crG d (fun _ => 2) (i + 1)) k = if k = d.ord.getD i 0 then d.F (d.ord.getD i 0) else sec (crG d (fun _ => 2) i) k := by
  obtain ⟨a1, a2, a3⟩ := ord_at h hi
  have hl := crG_len h (fun _ => 2) i (by omega)
  rw [crG_succ, if_neg (by decide), if_neg (by decide), sec_splice _ _ _ _ (by omega) (by rw [hl]; omega)]
  by_cases e : k = d.ord.getD i 0
  · rw [if_pos e, if_pos e]
    have : (sec (crG d (fun _ => 2) i) k).length ≤ 64 := by unfold sec; rw [List.length_take]; omega
    rw [List.drop_of_length_le (by omega), List.append_nil]
  · rw [if_neg e, if_neg e]
section
variable {base q : Nat} {Z : Nat → Prop} {d : Dk} {gv av nv : Value} {gs ns : List Value} {dl : Int}
set_option maxHeartbeats 2000000 in
set_option maxRecDepth 100000 in
theorem rd_sync_on (ho : d.on) (hn : d.ops < 1000000) (G : List UInt8) (hG : G.length = d.n * 64) (hGs : ∀ k, k < d.n → sec G k = d.read k) (W : World) (h : RefD base W q Z d gv av nv gs ns dl) (hz : ∀ k, Z k → k < W.heap.size) (hbs : base ≤ W.heap.size) :
    Calls Tryd.prog 14 #[.pointer (some ⟨q, 0, none⟩)] W fun e w' => e = .returned (.int .i64 0) ∧ RTo base W q Z { d.opd with good := G, ord := [] } w' := by
  have AO := rd_op_on ho hn W h
  have hol := ord_len h.ok
  have hnz := h.ok.n1
  have hn2 := h.ok.n2
  have HX := Lib.hid (And.intro hz (And.intro hbs (And.intro hG hGs)))
  have e1 : d.opd.ord = d.ord := rfl
  have e2 : d.opd.n = d.n := rfl
  have e3 : ∀ k, d.opd.read k = d.read k := fun k => rfl
  generalize hrd : d.read = rd at HX e3
  have AO' := Lib.hid AO
  generalize d.opd = d1 at *
  rw [← e2] at HX hnz hn2
  rw [← e1] at hol
  have HE3 := Lib.hid e3
  clear AO h ho hn hz hbs hG hGs e1 e2 e3 hrd
  go_enter Tryd.func14, Tryd.ntmps14
  go_wp2_with fail
  go_at_call 32
  refine (AO'.out).mono ?_
  rintro e w1 ⟨rfl, ⟨dl', h1⟩, K1⟩
  obtain ⟨sq1, b0, b1, b2, -, -, -, -, fz⟩ := refD_cells h1
  have f0 := fz 0
  have hok1 := h1.ok
  have H1 := Lib.hid h1
  have HK1 := Lib.hid K1
  obtain ⟨m, hm⟩ : ∃ m, m = d1.ord.length := ⟨_, rfl⟩
  obtain ⟨n, hnn⟩ : ∃ n, n = d1.n := ⟨_, rfl⟩
  obtain ⟨Eg, ga, gc, eg, -⟩ := rowF h1.good
  obtain ⟨En, na, nc, en, z1, z2, z3, z4, z5⟩ := rowF h1.new
  obtain ⟨Ea, aa, ac, ea, y1, y2, y3, y4, y5⟩ := rowF h1.at_
  have HN1 : Hid ((∀ j, j < m → ∃ v, w1.cell? ⟨En, j, none⟩ = some v ∧ RowOff w1 Z v (d1.F (d1.ord.getD j 0)) ∧ ∃ a k c, v = .slice a k c) ∧ (∀ j, j < m → w1.cell? ⟨Ea, j, none⟩ = some (.int .i64 ((d1.ord.getD j 0 : Nat) : Int)))) := Lib.hid ⟨fun j hj => by
    obtain ⟨v, e, r⟩ := h1.nsl j (by omega)
    refine ⟨v, by rw [(z5 j (by omega)).1, e], r, ?_⟩
    obtain ⟨a, c, _, _, ev, _⟩ := r.1
    exact ⟨_, _, _, ev⟩, fun j hj => by rw [(y5 j (by omega)).1, intL_getD _ j (by omega)]⟩
  have HGs : Hid (w1.ownsRow 0 37 1 (.slice ga n gc) n gs ∧ ∀ u ∈ gs, u.oneCell' = true) := Lib.hid ⟨by have := h1.good; rw [← hnn, eg, ← hnn] at this; exact this, refD_oneG h1⟩
  have HM := Lib.hid (And.intro hm hnn)
  rw [← hm] at hol z1 z2 y1 y2
  rw [eg, ← hnn] at b0
  rw [en, ← hm] at b2
  rw [ea, ← hm] at b1
  rw [← hnn] at hnz hn2
  have HH1 := Lib.hid h1.head
  clear h1 K1 AO' fz z3 z4 z5 y3 y4 y5 hm hnn
  go_upto_region 4 with (at_builtin; go_loud ((refine wpList_appS rfl (.tmp 8) (.tmp 12) rfl w1.heap.size 0 (.slice (some ⟨w1.heap.size, 0, none⟩) 0 0) (.slice ga n gc) 0 n [] gs rfl (litS w1) rfl (rowOwn_gr HGs.out.1 (al_gr _ _)) HGs.out.2 (by omega) (by simp) ?_); intro x2 w2 o2 g2; (have G2 : Gr w1 w2 := g2.gr (al_gr _ _) (fun k hk => (World.ownsRow.lt (litS w1) k hk).1)); (have HO2 : Hid (w2.ownsRow w1.heap.size 37 1 x2 n gs) := Lib.hid (by simpa using o2)); (obtain ⟨D2, cD, rfl, hD0, hD2, hcD, hcD2⟩ := row_form HO2.out (by omega)); (have hd2 := head_gr HH1.out G2); (have y2' := Hm.cell_of_heap hd2 0); (have yf2 := Hm.frozen_of_heap hd2 0); (have yq := (Array.getElem?_eq_some_iff.1 hd2).1); (have HD2 := Lib.hid hd2); (clear o2 g2 hd2)))
  have K3 : Kx (fun k => k = q) w2 (w2.setCell ⟨q, 0, none⟩ (.slice (some ⟨D2, 0, none⟩) n cD)) := (Kx.refl (S := fun k => k = q) w2).setCell (p := ⟨q, 0, none⟩) rfl _
  have HK3 : Hid (Kx (fun k => k = q ∨ w1.heap.size ≤ k) w1 (w2.setCell ⟨q, 0, none⟩ (.slice (some ⟨D2, 0, none⟩) n cD))) := Lib.hid ((Kx.of_gr G2).trans (K3.mono (fun k h => Or.inl h)))
  have HR3 : Hid (RefD base (w2.setCell ⟨q, 0, none⟩ (.slice (some ⟨D2, 0, none⟩) n cD)) q Z d1 (.slice (some ⟨D2, 0, none⟩) n cD) (.slice aa m ac) (.slice na m nc) gs ns dl') := Lib.hid (by
    obtain ⟨hz, hbs, -⟩ := HX.out
    have s1 : W.heap.size ≤ w1.heap.size := HK1.out.size
    have h1 := H1.out
    obtain ⟨n1, n2, n3⟩ := refD_neq h1
    have hO := refD_oth h1
    have no : ∀ k, k < w1.heap.size → k ≠ q → ¬ (k = q ∨ w1.heap.size ≤ k) := fun k h1 h2 h3 => by
      rcases h3 with h | h
      · exact h2 h
      · omega
    have hG : (w2.setCell ⟨q, 0, none⟩ (.slice (some ⟨D2, 0, none⟩) n cD)).ownsRow 0 37 1 (.slice (some ⟨D2, 0, none⟩) n cD) d1.n gs := by
      rw [← HM.out.2]
      refine rowOwn_base (rowOwn_kxS HO2.out K3 (fun j hj e => ?_)) (Nat.zero_le _)
      obtain rfl : D2 = j := by simpa [Value.ownBlock] using hj
      omega
    have hA := rowOwn_kxS h1.at_ HK3.out (fun j hj => no j (World.ownsRow.lt h1.at_ j hj).2 (n2 j hj))
    have hN := rowOwn_kxS h1.new HK3.out (fun j hj => no j (World.ownsRow.lt h1.new j hj).2 (n3 j hj))
    have hH := Hm.heap_set_same (i := 0) (v := .slice (some ⟨D2, 0, none⟩) n cD) HD2.out
    rw [ea, ← HM.out.1] at hA
    rw [en, ← HM.out.1] at hN
    rw [ea, en, ← HM.out.1] at hH
    refine refD_put h1 (fun k hk => Nat.lt_of_lt_of_le (hz k hk) s1) (Nat.le_trans hbs s1) hH h1.ok h1.lft hG (fun j hj => ?_) (by rw [← HM.out.1]; exact hA) (by rw [← HM.out.1]; exact hN) (fun j hj => ?_) (fun k hk => Or.inr ?_) (fun k hk => Or.inl (by rw [ea, ← HM.out.1]; exact hk)) (fun k hk => Or.inl (by rw [en, ← HM.out.1]; exact hk))
    · obtain ⟨v, e, r⟩ := h1.gsl j hj
      exact ⟨v, e, gSl_oth r HK3.out hO⟩
    · obtain ⟨v, e, r⟩ := h1.nsl j hj
      exact ⟨v, e, rowOff_oth r HK3.out hO⟩
    · obtain rfl : D2 = k := by simpa [Value.ownBlock] using hk
      exact hD0)
  have HNE : Hid (∀ j, j < m → (Ea ≠ q ∧ Ea < w1.heap.size) ∧ (En ≠ q ∧ En < w1.heap.size)) := Lib.hid (fun j hj => by
    have h1 := H1.out
    obtain ⟨n1, n2, n3⟩ := refD_neq h1
    have xa : av.ownBlock = some Ea := by rw [ea, y1 (by omega)]; rfl
    have xn : nv.ownBlock = some En := by rw [en, z1 (by omega)]; rfl
    exact ⟨⟨n2 _ xa, (World.ownsRow.lt h1.at_ _ xa).2⟩, n3 _ xn, (World.ownsRow.lt h1.new _ xn).2⟩)
  have HNB : Hid ((∀ k, (Value.slice aa m ac).ownBlock = some k → k < w1.heap.size) ∧ (∀ k, (Value.slice na m nc).ownBlock = some k → k < w1.heap.size)) := Lib.hid ⟨fun k hk => (World.ownsRow.lt H1.out.at_ k (by rw [ea, ← HM.out.1]; exact hk)).2, fun k hk => (World.ownsRow.lt H1.out.new k (by rw [en, ← HM.out.1]; exact hk)).2⟩
  have s3 : w1.heap.size ≤ (w2.setCell ⟨q, 0, none⟩ (.slice (some ⟨D2, 0, none⟩) n cD)).heap.size := HK3.out.size
  generalize (w2.setCell ⟨q, 0, none⟩ (.slice (some ⟨D2, 0, none⟩) n cD)) = w3 at HK3 HR3 s3 ⊢
  clear y2' yf2 yq K3 b0 b1 b2 f0 ea en eg HD2 HO2 hD2
  have hD1 := hD0
  have HZ1 := Lib.hid y1
  have HZ2 := Lib.hid z1
  clear y1 z1
  go_wp2_with fail
  go_loopg [3] m (fun j x wr => ∃ (i : Nat) (gs' : List Value), x = .int .i64 i ∧ i ≤ m ∧ j = m - i ∧ Hid (RefD base wr q Z { d1 with good := crG d1 (fun _ => 2) i } (.slice (some ⟨D2, 0, none⟩) n cD) (.slice aa m ac) (.slice na m nc) gs' ns dl') ∧ Hid (Kx (fun k => k = q ∨ w1.heap.size ≤ k) w1 wr))
  case atStart => exact ⟨0, gs, rfl, by omega, by omega, HR3, HK3⟩
  case round =>
    obtain ⟨i, gs', rfl, hi, hj, HR, HK⟩ := hrel
    obtain ⟨sq, c0, c1, c2, -, -, -, -, fz⟩ := refD_cells HR.out
    by_cases him : i < m
    · have ti : decide ((i : Int) < (m : Int)) = true := decide_eq_true (by omega)
      have ti2 : decide (i < m) = true := decide_eq_true him
      have ti3 : (i : Int) < (m : Int) := by omega
      have ti4 : (i : Int) < (ac : Int) := by omega
      have ti5 : (i : Int) < (nc : Int) := by omega
      obtain rfl := HZ1.out (by omega)
      obtain rfl := HZ2.out (by omega)
      obtain ⟨⟨x1, x2⟩, x3, x4⟩ := HNE.out i him
      obtain ⟨v, ev, rv, va, vn, vc, rfl⟩ := HN1.out.1 i him
      have q1 := cell_kx HK.out (fun e => by rcases e with e | e; exact x1 e; exact absurd x2 (Nat.not_lt.2 e)) (HN1.out.2 i him)
      have q2 := cell_kx HK.out (fun e => by rcases e with e | e; exact x3 e; exact absurd x4 (Nat.not_lt.2 e)) ev
      have zE := World.block_lt_of_cell? _ _ q1
      have zN := World.block_lt_of_cell? _ _ q2
      obtain ⟨a1, a2, a3⟩ := ord_at H1.out.ok (show i < d1.ord.length by rw [← HM.out.1]; exact him)
      have hrow := rowOff_oth rv HK.out (refD_oth H1.out)
      have hset : Hid (∀ j, j < n → sec (crG d1 (fun _ => 2) (i + 1)) j = if j = d1.ord.getD i 0 then d1.F (d1.ord.getD i 0) else sec (crG d1 (fun _ => 2) i) j) := Lib.hid (fun j hj => crG_two H1.out.ok (by rw [← HM.out.1]; exact him) (by rw [← HM.out.2]; exact hj))
      rw [← HM.out.2] at a2
      generalize d1.ord.getD i 0 = a at q1 a1 a2 a3 hrow hset
      have ta : (a : Int) < (n : Int) := by omega
      have tb : (a : Int) < (cD : Int) := by omega
      obtain ⟨u0, hu0, ru⟩ := HR.out.gsl a (by show a < d1.n; rw [← HM.out.2]; exact a2)
      have hlg : (0 : Nat) < n := by omega
      have hGO : wr.ownsRow 0 37 1 (.slice (some ⟨D2, 0, none⟩) n cD) n gs' := by have := HR.out.good; rw [show ({ d1 with good := crG d1 (fun _ => 2) i } : Dk).n = n from HM.out.2.symm] at this; exact this
      have p1 := hGO.cellAt a (by omega)
      rw [hu0] at p1
      have p2 := hGO.frozenAt a
      have zD := (World.ownsRow.lt hGO D2 rfl).2
      obtain ⟨ua, un, uc, rfl⟩ : ∃ a n c, u0 = .slice a n c := by
        rcases ru with ⟨ev, -⟩ | ⟨⟨a, c, _, _, ev, _⟩, -⟩
        · exact ⟨_, _, _, ev⟩
        · exact ⟨_, _, _, ev⟩
      have HRow := Lib.hid (And.intro hrow (And.intro a2 a3))
      clear ev rv hrow a1 a2 a3 ru hu0 hGO fz
      go_wp2_with fail
      go_region
      have hw := refD_setG (d := { d1 with good := crG d1 (fun _ => 2) i }) (D := D2) (c := cD) (k := a) (x := .slice va vn vc) (G := crG d1 (fun _ => 2) (i + 1)) (L := d1.F a) (by
        have := HR.out
        rw [HM.out.2] at this
        exact this) (by show a < d1.n; rw [← HM.out.2]; exact HRow.out.2.1) (Or.inr HRow.out.1) (crG_len H1.out.ok _ _ (by have := HM.out.1; omega)) (fun j hj => hset.out j (by rw [HM.out.2]; exact hj)) (fun j hj e => by have := HNB.out.1 j hj; omega) (fun j hj e => by have := HNB.out.2 j hj; omega)
      have HR' : Hid (RefD base (wr.setCell ⟨D2, a, none⟩ (.slice va vn vc)).drew q Z { d1 with good := crG d1 (fun _ => 2) (i + 1) } (.slice (some ⟨D2, 0, none⟩) n cD) (.slice (some ⟨Ea, 0, none⟩) m ac) (.slice (some ⟨En, 0, none⟩) m nc) (gs'.set a (.slice va vn vc)) ns dl') := Lib.hid (by
        have := refD_gr hw.1 (Gr.drew (Below.refl _ _))
        rw [HM.out.2]
        exact this)
      have HK' : Hid (Kx (fun k => k = q ∨ w1.heap.size ≤ k) w1 (wr.setCell ⟨D2, a, none⟩ (.slice va vn vc)).drew) := Lib.hid ((HK.out.trans (hw.2.mono (fun k h => Or.inr (by rw [show k = D2 from h]; exact hD1)))).drew)
      generalize (wr.setCell ⟨D2, a, none⟩ (.slice va vn vc)).drew = w5 at HR' HK' ⊢
      clear hw HR HK q1 q2 p1 p2 c0 c1 c2 zE zN zD hset HRow sq
      go_wp2_with fail
      go_roundg (m - (i + 1))
      case measure => omega
      case rel => exact ⟨i + 1, _, by go_num, by omega, by omega, HR', HK'⟩
    · obtain rfl : i = m := by omega
      have ti : decide ((i : Int) < (i : Int)) = false := decide_eq_false (by omega)
      have ti3 : ¬ (i : Int) < (i : Int) := by omega
      have f1 := fz 1
      have f2 := fz 2
      have hh := HR.out.head
      have K8 : Kx (fun k => k = q) wr ((wr.setCell ⟨q, 1, none⟩ (.slice none 0 0)).setCell ⟨q, 2, none⟩ (.slice none 0 0)) := ((Kx.refl (S := fun k => k = q) wr).setCell (p := ⟨q, 1, none⟩) rfl _).setCell (p := ⟨q, 2, none⟩) rfl _
      have HF : Hid (RTo base W q Z { d1 with good := G, ord := [] } ((wr.setCell ⟨q, 1, none⟩ (.slice none 0 0)).setCell ⟨q, 2, none⟩ (.slice none 0 0))) := Lib.hid (by
        obtain ⟨hz, hbs, hG, hGs⟩ := HX.out
        have s1 : W.heap.size ≤ w1.heap.size := HK1.out.size
        have s2 := HK.out.size
        have hr := refD_good (G := G) HR.out hG (fun k hk => by
          rw [hGs k hk, ← HE3.out k, ← syn_sec H1.out.ok hk, ← HM.out.1])
        have hO := refD_oth hr
        obtain ⟨n1, n2, n3⟩ := refD_neq hr
        have hok := hr.ok
        refine ⟨⟨_, _, _, gs', [], dl', refD_put (d' := { d1 with good := G, ord := [] }) hr (fun k hk => Nat.lt_of_lt_of_le (hz k hk) (Nat.le_trans s1 s2)) (Nat.le_trans hbs (Nat.le_trans s1 s2)) (Hm.heap_set_same (Hm.heap_set_same hh)) ⟨hok.n1, hok.n2, hok.len, List.nodup_nil, fun k hk => absurd hk List.not_mem_nil, fun k hk => absurd hk List.not_mem_nil, hok.ops, hok.left, hok.lft⟩ hr.lft (rowOwn_kxS hr.good K8 (fun j hj e => n1 j hj e)) (fun j hj => ?_) (World.ownsRow_nil _ _ _ _) (World.ownsRow_nil _ _ _ _) (fun j hj => absurd hj (by simp)) (fun k hk => Or.inl hk) (fun k hk => (by cases hk)) (fun k hk => (by cases hk))⟩, ((HK1.out.mono (fun k h => Or.inl h)).trans (HK.out.mono (fun k h => by rcases h with h | h; exact Or.inl h; exact Or.inr (by omega)))).trans (K8.mono (fun k h => Or.inl h))⟩
        obtain ⟨v, e, r⟩ := hr.gsl j hj
        exact ⟨v, e, gSl_oth r K8 (fun k hk => hO k (Or.inl hk))⟩)
      clear hh K8 fz
      go_wp2_with fail
      go_ret
      exact ⟨rfl, HF.out⟩
end
end Go.Proofs.YtkbdhhmkdjajgaaDoor
