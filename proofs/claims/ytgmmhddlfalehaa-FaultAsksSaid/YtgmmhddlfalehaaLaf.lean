/- FaultAsks: the walk -/
import Derived.Test.YtgmmhddlfalehaaLae
import Derived.Test.YtgmmhddlfalehaaLo
namespace Go.Proofs.Ytgmmhddlfalehaa
set_option linter.unusedVariables false
set_option linter.unusedSimpArgs false
open Go.ChangeShapes Go.WideShapes Go.ChangeAt Go.RowKit

def dfW : Int × ByteArray := (0, ⟨#[]⟩)
def opsW (F : List (Int × ByteArray)) (i : Nat) : List ByteArray := (F.take i).map (·.2)
def fdW (F : List (Int × ByteArray)) (o : ByteArray) (i : Nat) : Option (Int × ByteArray) := (F.take i).find? (fun x => decide (x.2 = o))
def idW (F : List (Int × ByteArray)) (o : ByteArray) (i : Nat) : Int := ((fdW F o i).getD dfW).1
theorem opsW_len {F : List (Int × ByteArray)} {i : Nat} (h : i ≤ F.length) : (opsW F i).length = i := by
  unfold opsW
  rw [List.length_map, List.length_take]
  omega
theorem takeW {F : List (Int × ByteArray)} {i : Nat} (h : i < F.length) : F.take (i + 1) = F.take i ++ [F.getD i dfW] := by
  rw [List.take_add_one, List.getD_eq_getElem?_getD, List.getElem?_eq_getElem h]
  rfl
theorem opsW_succ {F : List (Int × ByteArray)} {i : Nat} (h : i < F.length) : opsW F (i + 1) = opsW F i ++ [(F.getD i dfW).2] := by
  unfold opsW
  rw [takeW h, List.map_append]
  rfl
theorem fdW_yes {F : List (Int × ByteArray)} {o : ByteArray} {i : Nat} (h : i < F.length) (hn : fdW F o i = none) (he : (F.getD i dfW).2 = o) : fdW F o (i + 1) = some (F.getD i dfW) := by
  unfold fdW at *
  rw [takeW h, List.find?_append, hn, List.find?_cons, decide_eq_true he]
  rfl
theorem fdW_no {F : List (Int × ByteArray)} {o : ByteArray} {i : Nat} (h : i < F.length) (he : ¬ (F.getD i dfW).2 = o) : fdW F o (i + 1) = fdW F o i := by
  unfold fdW
  rw [takeW h, List.find?_append, List.find?_cons, decide_eq_false he]
  cases (F.take i).find? (fun x => decide (x.2 = o)) <;> rfl
theorem fdW_had {F : List (Int × ByteArray)} {o : ByteArray} {i : Nat} (h : i < F.length) (hs : (fdW F o i).isSome = true) : fdW F o (i + 1) = fdW F o i := by
  unfold fdW at *
  rw [takeW h, List.find?_append]
  cases hh : (F.take i).find? (fun x => decide (x.2 = o)) with
  | none => rw [hh] at hs; cases hs
  | some x => rfl
theorem fdW_all (F : List (Int × ByteArray)) (o : ByteArray) : fdW F o F.length = F.find? (fun x => decide (x.2 = o)) := by
  unfold fdW
  rw [List.take_length]
theorem opsW_all (F : List (Int × ByteArray)) : opsW F F.length = F.map (·.2) := by
  unfold opsW
  rw [List.take_length]
theorem headW : ∀ l : List (Int × ByteArray), (l.map (·.1)).headD 0 = (l.getD 0 dfW).1
  | [] => rfl
  | _ :: _ => rfl
/-- What Find answers, by the law's own count. -/
theorem fnd_ans {W0 : World} {o : ByteArray} {l : List Er} {e : Ending} {r : Option (Int × ByteArray)} (h : FndA W0 (firstF o l) e) (hr : (l.filterMap Er.flt?).find? (fun x => decide (x.2 = o)) = r) :
    (r = none ∧ e = .returned (.tuple #[.pointer none, .bool false])) ∨ ∃ q F, r = some (q, o) ∧ e = .returned (.tuple #[.pointer (some ⟨F, 0, none⟩), .bool true]) ∧ W0.cell? ⟨F, 0, none⟩ = some (.string o) ∧ W0.cell? ⟨F, 1, none⟩ = some (.int .i64 q) := by
  rw [← firstF_fm] at hr
  obtain ⟨p, rfl, hp⟩ := h
  rcases hp with ⟨h0, rfl⟩ | ⟨T, F, h0, rfl, hT⟩
  · rw [h0] at hr ⊢
    exact Or.inl ⟨hr.symm, rfl⟩
  · have hop : T.op? = some o := by
      have := List.find?_some h0
      exact of_decide_eq_true this
    rw [h0] at hr ⊢
    cases T with
    | flt op id kid =>
      obtain rfl : op = o := Option.some.inj hop
      obtain ⟨F', u, e', c0, hu⟩ := hT
      simp only [ptrV, Value.iface.injEq, Value.pointer.injEq, Option.some.injEq, Addr.mk.injEq, true_and, and_true] at e'
      subst e'
      exact Or.inr ⟨id, F, hr.symm, rfl, Hm.cell_of_heap c0 0, Hm.cell_of_heap c0 1⟩
    | _ => cases hop
set_option maxHeartbeats 8000000 in
set_option maxRecDepth 100000 in
theorem asks_core (T : Nd) (c0 c1 c2 c3 : Value) (o : ByteArray) (W : World) (h : NdAt W T [c0, c1, c2, c3]) : Calls Try.prog 3 #[.agg #[c0, c1, c2, c3], .string o] W fun e w' => e = .returned (.bool true) ∧ Gr W w' := by
  obtain ⟨i0, hi0, hz0, hz1, hz2⟩ := info_parts (P := Try.prog) (e := 9) (z := .string ⟨#[]⟩) (size := 1) (bytes := 16) (by kernel_rfl)
  have HI := Lib.hid (And.intro hi0 (And.intro hz0 (And.intro hz1 hz2)))
  clear hi0 hz0 hz1 hz2
  have AW := Lib.hid (fun w (g : Gr W w) => c_weight T w c0 c1 c2 c3 0 (by decide) (by decide) (ndAt_gr g h))
  have HN := Lib.hid h
  have hform : ∃ (kind N : Int) (op : ByteArray) (n : Nat) (ad : Option Addr) (cap : Nat), c0 = .int .i64 kind ∧ c1 = .int .i64 N ∧ c2 = .string op ∧ c3 = .slice ad n cap := by
    cases T with
    | nil => exact h.elim
    | mk kind N op n kids =>
      obtain ⟨ad, cap, B, off, e, -⟩ := h
      simp only [List.cons.injEq, and_true] at e
      exact ⟨kind, N, op, n, ad, cap, e⟩
  obtain ⟨kind, N, op, n, ad, cap, rfl, rfl, rfl, rfl⟩ := hform
  clear h
  go_enter Try.func3, Try.ntmps3
  go_wp2_with fail
  go_at_call 7
  refine (AW.out _ (by go_grown)).mono ?_
  rintro e w1 ⟨r, rfl, hr1, hr2, g1⟩
  have b0 : w1.cell? ⟨W.heap.size, 0, none⟩ = some (.int .i64 kind) := cell_gr g1 (by go_simp)
  have b1 : w1.cell? ⟨W.heap.size, 1, none⟩ = some (.int .i64 N) := cell_gr g1 (by go_simp)
  have b2 : w1.cell? ⟨W.heap.size, 2, none⟩ = some (.string op) := cell_gr g1 (by go_simp)
  have b3 : w1.cell? ⟨W.heap.size, 3, none⟩ = some (.slice ad n cap) := cell_gr g1 (by go_simp)
  have zb := World.block_lt_of_cell? _ _ b0
  have GW1 : Gr W w1 := Gr.trans (by go_grown) g1
  clear g1
  by_cases hw : 500 < r
  · have tr : decide ((500 : Int) < (r : Int)) = true := decide_eq_true (by omega)
    have tr2 : decide (500 < r) = true := decide_eq_true hw
    have tr3 : (500 : Int) < (r : Int) := by omega
    go_wp2_with fail
    go_at_call 8
    refine (p7_awake _).mono ?_
    rintro e w2 ⟨rfl, g2⟩
    go_wp2_with fail
    go_ret
    exact ⟨rfl, Gr.trans GW1 g2⟩
  have tr : decide ((500 : Int) < (r : Int)) = false := decide_eq_false (by omega)
  have tr2 : decide (500 < r) = false := decide_eq_false (by omega)
  have tr3 : ¬ (500 : Int) < (r : Int) := by omega
  have hcnt : T.cnt ≤ 500 := Nat.le_trans (hr2 (by omega)) (by omega)
  clear hr1 hr2
  by_cases hz : o.size ≤ 100
  case neg =>
    have t1 : decide ((100 : Int) < (o.size : Int)) = true := decide_eq_true (by omega)
    have t2 : decide (100 < o.size) = true := decide_eq_true (by omega)
    have t3 : (100 : Int) < (o.size : Int) := by omega
    go_wp2_with fail
    go_at_call 8
    refine (p7_awake _).mono ?_
    rintro e w2 ⟨rfl, g2⟩
    go_wp2_with fail
    go_ret
    exact ⟨rfl, Gr.trans GW1 g2⟩
  have t1 : decide ((100 : Int) < (o.size : Int)) = false := decide_eq_false (by omega)
  have t2 : decide (100 < o.size) = false := decide_eq_false (by omega)
  have t3 : ¬ (100 : Int) < (o.size : Int) := by omega
  clear hz
  have HC := Lib.hid hcnt
  clear hcnt
  have AM := Lib.hid (c_made T (by have := HC.out; omega) w1 _ _ _ _ (ndAt_gr GW1 HN.out))
  go_wp2_with fail
  go_at_call 9
  refine (AM.out).mono ?_
  rintro e w2 ⟨E, v, rfl, hm, g2⟩
  have hE := mv_erT _ hm
  have hsz : E.size ≤ 400000 := by have := mv_size _ hm; have := HC.out; omega
  have l1 := mv_nums _ hm
  have l2 := mv_flts _ hm
  have HE := Lib.hid (And.intro hE (And.intro hsz (And.intro l1 l2)))
  have GW2 : Gr W w2 := Gr.trans GW1 g2
  have b20 := cell_gr g2 b0
  have b21 := cell_gr g2 b1
  have b22 := cell_gr g2 b2
  have b23 := cell_gr g2 b3
  have AK1 := Lib.hid (c_within 1 T (by have := HC.out; omega) w2 _ _ _ _ (ndAt_gr GW2 HN.out))
  have zb2 := World.block_lt_of_cell? _ _ b20
  clear hE hsz l1 l2 hm g2 GW1 b0 b1 b2 b3 zb AM tr tr2 tr3 t1 t2 t3 hw AW
  go_wp2_with fail
  go_at_call 10
  refine (AK1.out).mono ?_
  rintro e w3 ⟨s1, rfl, xs1, o3, hx3, g3⟩
  obtain ⟨D1, a1, k1, rfl, d1, d2, d3, d5⟩ := rowX o3
  have hg1 := wiX_get hx3 0
  obtain ⟨L1, hL1⟩ : ∃ L1, L1 = T.wi 1 := ⟨_, rfl⟩
  rw [← hL1] at d1 d2 d5 hg1 ⊢
  obtain ⟨m1, hm1⟩ : ∃ m1, m1 = L1.length := ⟨_, rfl⟩
  rw [← hm1] at d1 d2 d5 hg1 ⊢
  obtain ⟨cd, hcd⟩ : ∃ cd, cd = (L1.getD 0 (0, ⟨#[]⟩)).1 := ⟨_, rfl⟩
  rw [← hcd] at hg1
  have GW3 : Gr W w3 := Gr.trans GW2 g3
  have G23 := Lib.hid g3
  have b30 := cell_gr g3 b20
  have b31 := cell_gr g3 b21
  have b32 := cell_gr g3 b22
  have b33 := cell_gr g3 b23
  have zb3 := World.block_lt_of_cell? _ _ b30
  have HCD := Lib.hid (And.intro hL1 (And.intro hm1 hcd))
  have hc0 : m1 = 0 → cd = 0 := fun h => by
    have := HCD.out.2.1
    have e : L1 = [] := List.eq_nil_of_length_eq_zero (by omega)
    rw [hcd, e]
    rfl
  have cD : 0 < m1 → w3.cell? ⟨D1, 1, none⟩ = some (.int .i64 cd) := fun h => by
    have a := d5 1 (by omega)
    rw [a]
    exact (hg1 h).1
  clear o3 hx3 hg1 d5 hL1 hm1 hcd g3 b20 b21 b22 b23 zb2 AK1
  have AK2 := Lib.hid (c_within 2 T (by have := HC.out; omega) w3 _ _ _ _ (ndAt_gr GW3 HN.out))
  have hsplit : (0 < m1 ∧ a1 = some ⟨D1, 0, none⟩ ∧ w3.cell? ⟨D1, 1, none⟩ = some (.int .i64 cd)) ∨ (m1 = 0 ∧ cd = 0) := by
    by_cases h : 0 < m1
    · exact Or.inl ⟨h, d1 h, cD h⟩
    · exact Or.inr ⟨by omega, hc0 (by omega)⟩
  clear d1 cD hc0
  rcases hsplit with ⟨hp, rfl, cD⟩ | ⟨rfl, rfl⟩
  · have tm1 : decide ((0 : Int) < (m1 : Int)) = true := decide_eq_true (by omega)
    have tm2 : decide (0 < m1) = true := decide_eq_true hp
    have tm3 : (0 : Int) < (m1 : Int) := by omega
    have tm4 : (0 : Int) < (k1 : Int) := by omega
    have zD := World.block_lt_of_cell? _ _ cD
    go_wp2_with fail
    go_at_call 10
    refine (AK2.out).mono ?_
    clear tm1 tm2 tm3 tm4 hp d2 cD zD
    rintro e w4 ⟨s2, rfl, xs2, o4, hx4, g4⟩
    obtain ⟨D, a2, k2, rfl, e1, e2, e3, e5⟩ := rowX o4
    have hg2 := wiX_get hx4
    obtain ⟨F, hF⟩ : ∃ F, F = T.wi 2 := ⟨_, rfl⟩
    rw [← hF] at e1 e2 e5 hg2 ⊢
    obtain ⟨m, hm⟩ : ∃ m, m = F.length := ⟨_, rfl⟩
    have hm500 : m ≤ 500 := by
      have a := wi_len 2 T
      have b := HC.out
      rw [← hF] at a
      omega
    rw [← hm] at e1 e2 e5 hg2 ⊢
    have hcell : ∀ i, i < m → w4.cell? ⟨D, i * 4 + 1, none⟩ = some (.int .i64 (F.getD i dfW).1) ∧ w4.cell? ⟨D, i * 4 + 2, none⟩ = some (.string (F.getD i dfW).2) := fun i hi => by
      rw [e5 _ (by omega), e5 _ (by omega)]
      exact hg2 i hi
    have HX := Lib.hid (And.intro e1 hcell)
    have HF := Lib.hid (And.intro hF hm)
    have GW4 : Gr W w4 := Gr.trans GW3 g4
    have HG4 := Lib.hid (And.intro GW4 (Gr.trans G23.out g4))
    clear o4 hx4 hg2 e1 e5 hcell hF hm g4 AK2 GW2 GW3 GW4 G23 b30 b31 b32 b33 zb3
    have HR0 : Hid (w4.ownsRow w4.heap.size 9 1 (.slice none 0 0) 0 (strV (opsW F 0))) := Lib.hid (World.ownsRow_nil _ _ _ _)
    have HG0 : Hid (Gr w4 w4) := Lib.hid (Below.refl _ w4)
    go_wp2_with fail
    go_loopg [8, 10, 11, 12] m (fun j x y z u wq => ∃ i : Nat, u = .int .i64 i ∧ i ≤ m ∧ j = m - i ∧ y = .int .i64 (idW F o i) ∧ z = .bool (fdW F o i).isSome ∧ Hid (wq.ownsRow w4.heap.size 9 1 x i (strV (opsW F i))) ∧ Hid (Gr w4 wq))
    case atStart => exact ⟨0, rfl, by omega, by omega, rfl, rfl, HR0, HG0⟩
    case round =>
      obtain ⟨i, rfl, hi, hj, rfl, rfl, HR, HG⟩ := hrel
      by_cases hin : i < m
      · have ti : decide ((i : Int) < (m : Int)) = true := decide_eq_true (by omega)
        have ti2 : decide (i < m) = true := decide_eq_true hin
        have ti3 : (i : Int) < (m : Int) := by omega
        have tn1 : (i : Int) < (k2 : Int) := by omega
        have t0 : (0 : Int) ≤ (i : Int) := by omega
        obtain rfl := HX.out.1 (by omega)
        obtain ⟨y1, y2⟩ := HX.out.2 i hin
        have q1 := cell_gr HG.out y1
        have q2 := cell_gr HG.out y2
        have hil : i < F.length := by have := HF.out.2; omega
        have HIL := Lib.hid hil
        obtain ⟨z, ez⟩ : ∃ z, z = (F.getD i dfW).2 := ⟨_, rfl⟩
        obtain ⟨q, eq⟩ : ∃ q, q = (F.getD i dfW).1 := ⟨_, rfl⟩
        rw [← eq] at q1
        rw [← ez] at q2
        have HEZ := Lib.hid (And.intro ez eq)
        have zD := World.block_lt_of_cell? _ _ q1
        obtain ⟨bb, hbb⟩ : ∃ bb, bb = (fdW F o i).isSome := ⟨_, rfl⟩
        obtain ⟨iv, hiv⟩ : ∃ iv, iv = idW F o i := ⟨_, rfl⟩
        rw [← hbb, ← hiv]
        have HBV := Lib.hid (And.intro hbb hiv)
        have hbz : w4.heap.size ≤ wr.heap.size := HG.out.size
        clear y1 y2 hil ez eq hbb hiv
        go_upto_region 16 with (first | fail | (at_builtin; go_loud ((refine wpList_append_own2 _ rfl (.tmp 43) (.tmp 49) 32 rfl w4.heap.size 9 i0 (.string ⟨#[]⟩) 1 16 Try.underlying32 HI.out.1 HI.out.2.1 HI.out.2.2.1 HI.out.2.2.2 rfl (by decide) u8 i (strV (opsW F i)) rfl (rowOwn_gr HR.out (al_grw wr _)) ⟨wr.heap.size, 0, none⟩ 1 1 [.string z] rfl rfl (cell_one_new _ _ _) (by intro u hu; simp only [List.mem_cons, List.not_mem_nil, or_false] at hu; subst hu; rfl) (by unfold maxLen; omega) (by omega) (Nat.le_trans hbz (al_le _ _)) ?_); intro x5 w5 o5 g5; (have G5 : Gr w4 w5 := g5.gr (Gr.trans HG.out (al_grw wr _)) (fun k hk => (World.ownsRow.lt HR.out k hk).1)); (have p1 : w5.cell? ⟨D, i * 4 + 1, none⟩ = some (.int .i64 q) := by rw [HEZ.out.2]; exact cell_gr G5 (HX.out.2 i hin).1); (have p2 : w5.cell? ⟨D, i * 4 + 2, none⟩ = some (.string z) := by rw [HEZ.out.1]; exact cell_gr G5 (HX.out.2 i hin).2); (have zD5 := World.block_lt_of_cell? _ _ p1); (have HO5 := Lib.hid (And.intro o5 G5)); clear o5 g5 G5)))
        clear q1 q2 zD
        have HR5 : Hid (w5.ownsRow w4.heap.size 9 1 x5 (i + 1) (strV (opsW F (i + 1)))) := Lib.hid (by
          have e : strV (opsW F (i + 1)) = strV (opsW F i) ++ [.string z] := by
            rw [opsW_succ HIL.out, HEZ.out.1]
            unfold strV
            rw [List.map_append]
            rfl
          rw [e]
          exact HO5.out.1)
        have HG5 : Hid (Gr w4 w5) := Lib.hid HO5.out.2
        by_cases hzo : z = o
        · subst hzo
          have tz := ba_eqL z
          cases bb with
          | true =>
            have hs := fdW_had (o := z) HIL.out HBV.out.1.symm
            have R1 : idW F z (i + 1) = iv := by rw [HBV.out.2]; unfold idW; rw [hs]
            have R2 : (fdW F z (i + 1)).isSome = true := by rw [hs]; exact HBV.out.1.symm
            have HRR := Lib.hid (And.intro R1 R2)
            clear hs R1 R2
            go_wp2_with fail
            go_roundg (m - (i + 1))
            case measure => omega
            case rel => exact ⟨i + 1, by go_num, by omega, rfl, by rw [HRR.out.1], by rw [HRR.out.2], HR5, HG5⟩
          | false =>
            have hs : fdW F z (i + 1) = some (F.getD i dfW) := fdW_yes HIL.out (by
              have := HBV.out.1
              cases hh : fdW F z i with
              | none => rfl
              | some x => rw [hh] at this; cases this) HEZ.out.1.symm
            have R1 : idW F z (i + 1) = q := by unfold idW; rw [hs, HEZ.out.2]; rfl
            have R2 : (fdW F z (i + 1)).isSome = true := by rw [hs]; rfl
            have HRR := Lib.hid (And.intro R1 R2)
            clear hs R1 R2
            go_wp2_with fail
            go_roundg (m - (i + 1))
            case measure => omega
            case rel => exact ⟨i + 1, by go_num, by omega, rfl, by rw [HRR.out.1], by rw [HRR.out.2], HR5, HG5⟩
        · have tz := ba_neL hzo
          have hs := fdW_no (o := o) HIL.out (by rw [← HEZ.out.1]; exact hzo)
          have R1 : idW F o (i + 1) = iv := by rw [HBV.out.2]; unfold idW; rw [hs]
          have R2 : (fdW F o (i + 1)).isSome = bb := by rw [hs]; exact HBV.out.1.symm
          have HRR := Lib.hid (And.intro R1 R2)
          clear hs R1 R2 hzo
          go_wp2_with fail
          go_roundg (m - (i + 1))
          case measure => omega
          case rel => exact ⟨i + 1, by go_num, by omega, rfl, by rw [HRR.out.1], by rw [HRR.out.2], HR5, HG5⟩
      · obtain rfl : i = m := by omega
        have ti : decide ((i : Int) < (i : Int)) = false := decide_eq_false (by omega)
        have ti3 : ¬ (i : Int) < (i : Int) := by omega
        have GE : Gr w2 wr := Gr.trans HG4.out.2 HG.out
        have hS : Strs wr u8 (opsN E.pre) := by
          have e : opsW F i = opsN E.pre := by rw [opsN_fm, HE.out.2.2.2, HF.out.2, opsW_all, HF.out.1]
          have hl : (opsW F i).length = i := opsW_len (by have := HF.out.2; omega)
          rw [← e]
          exact strs_own (base := w4.heap.size) (by rw [hl]; exact HR.out)
        have hfst : firstN E.pre = cd := by rw [firstN_fm, HE.out.2.2.1, headW, ← HCD.out.1]; exact HCD.out.2.2.symm
        have hol : (opsN E.pre).length ≤ 1000 := by
          have e : opsW F i = opsN E.pre := by rw [opsN_fm, HE.out.2.2.2, HF.out.2, opsW_all, HF.out.1]
          rw [← e, opsW_len (by have := HF.out.2; omega)]
          omega
        have AF := Lib.hid (c_fFind o wr (erT_gr GE HE.out.1) HE.out.2.1)
        have AC0 : ∀ w, Gr wr w → Calls Try.prog 12 #[v] w fun e w' => e = .returned (.int .i64 cd) ∧ Gr w w' := fun w g => by
          have := c_fCode w (erT_gr (Gr.trans GE g) HE.out.1) HE.out.2.1
          rwa [hfst] at this
        have AH0 : ∀ w, Gr wr w → Calls Try.prog 14 #[v] w fun e w' => ∃ sv, e = .returned sv ∧ Strs w' sv (opsN E.pre) ∧ Gr w w' := fun w g => by
          refine (c_fChain w (erT_gr (Gr.trans GE g) HE.out.1) HE.out.2.1).mono ?_
          rintro e w' ⟨sv, rfl, o, g'⟩
          exact ⟨sv, rfl, strs_own o, g'⟩
        have AT0 : ∀ w, Gr wr w → ∀ sv, Strs w sv (opsN E.pre) → Calls Try.prog 13 #[sv, u8] w fun e w' => e = .returned (.bool true) ∧ Gr w w' := fun w g sv h => c_TextsSame _ h (strs_gr hS g) (by omega)
        have HRE : Hid ((E.pre.filterMap Er.flt?).find? (fun x => decide (x.2 = o)) = fdW F o i) := Lib.hid (by rw [HE.out.2.2.2, HF.out.2, fdW_all, HF.out.1])
        have AC := Lib.hid AC0
        have AH := Lib.hid AH0
        have AT := Lib.hid AT0
        have GWR := Lib.hid (Gr.trans HG4.out.1 HG.out)
        obtain ⟨ad', cap', B', off', eS, -⟩ := hS
        have tcd : (cd == cd) = true := beq_self_eq_true _
        obtain ⟨bb, hbb⟩ : ∃ bb, bb = (fdW F o i).isSome := ⟨_, rfl⟩
        obtain ⟨iv, hiv⟩ : ∃ iv, iv = idW F o i := ⟨_, rfl⟩
        rw [← hbb, ← hiv]
        have HBV := Lib.hid (And.intro hbb hiv)
        clear AC0 AH0 AT0 hfst hol GE HR hbb hiv
        subst eS
        go_wp2_with fail
        go_at_call 11
        refine (AF.out).mono ?_
        rintro e w6 ⟨hA, g6⟩
        rcases fnd_ans hA HRE.out with ⟨hr, rfl⟩ | ⟨q, Fp, hr, rfl, cF0, cF1⟩
        · obtain rfl : bb = false := by rw [HBV.out.1, hr]; rfl
          clear hA hr
          have HG6 := Lib.hid g6
          clear g6
          go_wp2_with fail
          go_at_call 12
          refine (AC.out _ HG6.out).mono ?_
          rintro e w8 ⟨rfl, g8⟩
          have HG8 := Lib.hid (Gr.trans HG6.out g8)
          clear g8
          go_wp2_with fail
          go_at_call 14
          refine (AH.out _ HG8.out).mono ?_
          rintro e w9 ⟨sv, rfl, S9, g9⟩
          have HS9 := Lib.hid S9
          obtain ⟨sa, sc, SB, so, rfl, -⟩ := S9
          have HG9 := Lib.hid (Gr.trans HG8.out g9)
          clear g9
          go_wp2_with fail
          go_at_call 13
          refine (AT.out _ HG9.out _ HS9.out).mono ?_
          rintro e w10 ⟨rfl, g10⟩
          have HG10 := Lib.hid (Gr.trans HG9.out g10)
          clear g10
          go_wp2_with fail
          go_at_call 8
          refine (p7_awake _).mono ?_
          rintro e w11 ⟨rfl, g11⟩
          go_wp2_with fail
          go_ret
          exact ⟨rfl, Gr.trans GWR.out (Gr.trans HG10.out g11)⟩
        · obtain rfl : bb = true := by rw [HBV.out.1, hr]; rfl
          obtain rfl : iv = q := by rw [HBV.out.2]; unfold idW; rw [hr]; rfl
          have r0 := cell_gr g6 cF0
          have r1 := cell_gr g6 cF1
          have zF := World.block_lt_of_cell? _ _ r0
          have tz : (o.toList != o.toList) = false := bne_self_eq_false _
          have tq : ((iv : Int) != iv) = false := bne_self_eq_false _
          clear hA hr cF0 cF1
          have HG6 := Lib.hid g6
          clear g6
          go_wp2_with fail
          go_at_call 12
          refine (AC.out _ HG6.out).mono ?_
          rintro e w8 ⟨rfl, g8⟩
          have HG8 := Lib.hid (Gr.trans HG6.out g8)
          clear g8
          go_wp2_with fail
          go_at_call 14
          refine (AH.out _ HG8.out).mono ?_
          rintro e w9 ⟨sv, rfl, S9, g9⟩
          have HS9 := Lib.hid S9
          obtain ⟨sa, sc, SB, so, rfl, -⟩ := S9
          have HG9 := Lib.hid (Gr.trans HG8.out g9)
          clear g9
          go_wp2_with fail
          go_at_call 13
          refine (AT.out _ HG9.out _ HS9.out).mono ?_
          rintro e w10 ⟨rfl, g10⟩
          have HG10 := Lib.hid (Gr.trans HG9.out g10)
          clear g10
          go_wp2_with fail
          go_at_call 8
          refine (p7_awake _).mono ?_
          rintro e w11 ⟨rfl, g11⟩
          go_wp2_with fail
          go_ret
          exact ⟨rfl, Gr.trans GWR.out (Gr.trans HG10.out g11)⟩
  · go_wp2_with fail
    go_at_call 10
    refine (AK2.out).mono ?_
    clear d2
    rintro e w4 ⟨s2, rfl, xs2, o4, hx4, g4⟩
    obtain ⟨D, a2, k2, rfl, e1, e2, e3, e5⟩ := rowX o4
    have hg2 := wiX_get hx4
    obtain ⟨F, hF⟩ : ∃ F, F = T.wi 2 := ⟨_, rfl⟩
    rw [← hF] at e1 e2 e5 hg2 ⊢
    obtain ⟨m, hm⟩ : ∃ m, m = F.length := ⟨_, rfl⟩
    have hm500 : m ≤ 500 := by
      have a := wi_len 2 T
      have b := HC.out
      rw [← hF] at a
      omega
    rw [← hm] at e1 e2 e5 hg2 ⊢
    have hcell : ∀ i, i < m → w4.cell? ⟨D, i * 4 + 1, none⟩ = some (.int .i64 (F.getD i dfW).1) ∧ w4.cell? ⟨D, i * 4 + 2, none⟩ = some (.string (F.getD i dfW).2) := fun i hi => by
      rw [e5 _ (by omega), e5 _ (by omega)]
      exact hg2 i hi
    have HX := Lib.hid (And.intro e1 hcell)
    have HF := Lib.hid (And.intro hF hm)
    have GW4 : Gr W w4 := Gr.trans GW3 g4
    have HG4 := Lib.hid (And.intro GW4 (Gr.trans G23.out g4))
    clear o4 hx4 hg2 e1 e5 hcell hF hm g4 AK2 GW2 GW3 GW4 G23 b30 b31 b32 b33 zb3
    have HR0 : Hid (w4.ownsRow w4.heap.size 9 1 (.slice none 0 0) 0 (strV (opsW F 0))) := Lib.hid (World.ownsRow_nil _ _ _ _)
    have HG0 : Hid (Gr w4 w4) := Lib.hid (Below.refl _ w4)
    go_wp2_with fail
    go_loopg [8, 10, 11, 12] m (fun j x y z u wq => ∃ i : Nat, u = .int .i64 i ∧ i ≤ m ∧ j = m - i ∧ y = .int .i64 (idW F o i) ∧ z = .bool (fdW F o i).isSome ∧ Hid (wq.ownsRow w4.heap.size 9 1 x i (strV (opsW F i))) ∧ Hid (Gr w4 wq))
    case atStart => exact ⟨0, rfl, by omega, by omega, rfl, rfl, HR0, HG0⟩
    case round =>
      obtain ⟨i, rfl, hi, hj, rfl, rfl, HR, HG⟩ := hrel
      by_cases hin : i < m
      · have ti : decide ((i : Int) < (m : Int)) = true := decide_eq_true (by omega)
        have ti2 : decide (i < m) = true := decide_eq_true hin
        have ti3 : (i : Int) < (m : Int) := by omega
        have tn1 : (i : Int) < (k2 : Int) := by omega
        have t0 : (0 : Int) ≤ (i : Int) := by omega
        obtain rfl := HX.out.1 (by omega)
        obtain ⟨y1, y2⟩ := HX.out.2 i hin
        have q1 := cell_gr HG.out y1
        have q2 := cell_gr HG.out y2
        have hil : i < F.length := by have := HF.out.2; omega
        have HIL := Lib.hid hil
        obtain ⟨z, ez⟩ : ∃ z, z = (F.getD i dfW).2 := ⟨_, rfl⟩
        obtain ⟨q, eq⟩ : ∃ q, q = (F.getD i dfW).1 := ⟨_, rfl⟩
        rw [← eq] at q1
        rw [← ez] at q2
        have HEZ := Lib.hid (And.intro ez eq)
        have zD := World.block_lt_of_cell? _ _ q1
        obtain ⟨bb, hbb⟩ : ∃ bb, bb = (fdW F o i).isSome := ⟨_, rfl⟩
        obtain ⟨iv, hiv⟩ : ∃ iv, iv = idW F o i := ⟨_, rfl⟩
        rw [← hbb, ← hiv]
        have HBV := Lib.hid (And.intro hbb hiv)
        have hbz : w4.heap.size ≤ wr.heap.size := HG.out.size
        clear y1 y2 hil ez eq hbb hiv
        go_upto_region 16 with (first | fail | (at_builtin; go_loud ((refine wpList_append_own2 _ rfl (.tmp 43) (.tmp 49) 32 rfl w4.heap.size 9 i0 (.string ⟨#[]⟩) 1 16 Try.underlying32 HI.out.1 HI.out.2.1 HI.out.2.2.1 HI.out.2.2.2 rfl (by decide) u8 i (strV (opsW F i)) rfl (rowOwn_gr HR.out (al_grw wr _)) ⟨wr.heap.size, 0, none⟩ 1 1 [.string z] rfl rfl (cell_one_new _ _ _) (by intro u hu; simp only [List.mem_cons, List.not_mem_nil, or_false] at hu; subst hu; rfl) (by unfold maxLen; omega) (by omega) (Nat.le_trans hbz (al_le _ _)) ?_); intro x5 w5 o5 g5; (have G5 : Gr w4 w5 := g5.gr (Gr.trans HG.out (al_grw wr _)) (fun k hk => (World.ownsRow.lt HR.out k hk).1)); (have p1 : w5.cell? ⟨D, i * 4 + 1, none⟩ = some (.int .i64 q) := by rw [HEZ.out.2]; exact cell_gr G5 (HX.out.2 i hin).1); (have p2 : w5.cell? ⟨D, i * 4 + 2, none⟩ = some (.string z) := by rw [HEZ.out.1]; exact cell_gr G5 (HX.out.2 i hin).2); (have zD5 := World.block_lt_of_cell? _ _ p1); (have HO5 := Lib.hid (And.intro o5 G5)); clear o5 g5 G5)))
        clear q1 q2 zD
        have HR5 : Hid (w5.ownsRow w4.heap.size 9 1 x5 (i + 1) (strV (opsW F (i + 1)))) := Lib.hid (by
          have e : strV (opsW F (i + 1)) = strV (opsW F i) ++ [.string z] := by
            rw [opsW_succ HIL.out, HEZ.out.1]
            unfold strV
            rw [List.map_append]
            rfl
          rw [e]
          exact HO5.out.1)
        have HG5 : Hid (Gr w4 w5) := Lib.hid HO5.out.2
        by_cases hzo : z = o
        · subst hzo
          have tz := ba_eqL z
          cases bb with
          | true =>
            have hs := fdW_had (o := z) HIL.out HBV.out.1.symm
            have R1 : idW F z (i + 1) = iv := by rw [HBV.out.2]; unfold idW; rw [hs]
            have R2 : (fdW F z (i + 1)).isSome = true := by rw [hs]; exact HBV.out.1.symm
            have HRR := Lib.hid (And.intro R1 R2)
            clear hs R1 R2
            go_wp2_with fail
            go_roundg (m - (i + 1))
            case measure => omega
            case rel => exact ⟨i + 1, by go_num, by omega, rfl, by rw [HRR.out.1], by rw [HRR.out.2], HR5, HG5⟩
          | false =>
            have hs : fdW F z (i + 1) = some (F.getD i dfW) := fdW_yes HIL.out (by
              have := HBV.out.1
              cases hh : fdW F z i with
              | none => rfl
              | some x => rw [hh] at this; cases this) HEZ.out.1.symm
            have R1 : idW F z (i + 1) = q := by unfold idW; rw [hs, HEZ.out.2]; rfl
            have R2 : (fdW F z (i + 1)).isSome = true := by rw [hs]; rfl
            have HRR := Lib.hid (And.intro R1 R2)
            clear hs R1 R2
            go_wp2_with fail
            go_roundg (m - (i + 1))
            case measure => omega
            case rel => exact ⟨i + 1, by go_num, by omega, rfl, by rw [HRR.out.1], by rw [HRR.out.2], HR5, HG5⟩
        · have tz := ba_neL hzo
          have hs := fdW_no (o := o) HIL.out (by rw [← HEZ.out.1]; exact hzo)
          have R1 : idW F o (i + 1) = iv := by rw [HBV.out.2]; unfold idW; rw [hs]
          have R2 : (fdW F o (i + 1)).isSome = bb := by rw [hs]; exact HBV.out.1.symm
          have HRR := Lib.hid (And.intro R1 R2)
          clear hs R1 R2 hzo
          go_wp2_with fail
          go_roundg (m - (i + 1))
          case measure => omega
          case rel => exact ⟨i + 1, by go_num, by omega, rfl, by rw [HRR.out.1], by rw [HRR.out.2], HR5, HG5⟩
      · obtain rfl : i = m := by omega
        have ti : decide ((i : Int) < (i : Int)) = false := decide_eq_false (by omega)
        have ti3 : ¬ (i : Int) < (i : Int) := by omega
        have GE : Gr w2 wr := Gr.trans HG4.out.2 HG.out
        have hS : Strs wr u8 (opsN E.pre) := by
          have e : opsW F i = opsN E.pre := by rw [opsN_fm, HE.out.2.2.2, HF.out.2, opsW_all, HF.out.1]
          have hl : (opsW F i).length = i := opsW_len (by have := HF.out.2; omega)
          rw [← e]
          exact strs_own (base := w4.heap.size) (by rw [hl]; exact HR.out)
        have hfst : firstN E.pre = 0 := by rw [firstN_fm, HE.out.2.2.1, headW, ← HCD.out.1]; exact HCD.out.2.2.symm
        have hol : (opsN E.pre).length ≤ 1000 := by
          have e : opsW F i = opsN E.pre := by rw [opsN_fm, HE.out.2.2.2, HF.out.2, opsW_all, HF.out.1]
          rw [← e, opsW_len (by have := HF.out.2; omega)]
          omega
        have AF := Lib.hid (c_fFind o wr (erT_gr GE HE.out.1) HE.out.2.1)
        have AC0 : ∀ w, Gr wr w → Calls Try.prog 12 #[v] w fun e w' => e = .returned (.int .i64 0) ∧ Gr w w' := fun w g => by
          have := c_fCode w (erT_gr (Gr.trans GE g) HE.out.1) HE.out.2.1
          rwa [hfst] at this
        have AH0 : ∀ w, Gr wr w → Calls Try.prog 14 #[v] w fun e w' => ∃ sv, e = .returned sv ∧ Strs w' sv (opsN E.pre) ∧ Gr w w' := fun w g => by
          refine (c_fChain w (erT_gr (Gr.trans GE g) HE.out.1) HE.out.2.1).mono ?_
          rintro e w' ⟨sv, rfl, o, g'⟩
          exact ⟨sv, rfl, strs_own o, g'⟩
        have AT0 : ∀ w, Gr wr w → ∀ sv, Strs w sv (opsN E.pre) → Calls Try.prog 13 #[sv, u8] w fun e w' => e = .returned (.bool true) ∧ Gr w w' := fun w g sv h => c_TextsSame _ h (strs_gr hS g) (by omega)
        have HRE : Hid ((E.pre.filterMap Er.flt?).find? (fun x => decide (x.2 = o)) = fdW F o i) := Lib.hid (by rw [HE.out.2.2.2, HF.out.2, fdW_all, HF.out.1])
        have AC := Lib.hid AC0
        have AH := Lib.hid AH0
        have AT := Lib.hid AT0
        have GWR := Lib.hid (Gr.trans HG4.out.1 HG.out)
        obtain ⟨ad', cap', B', off', eS, -⟩ := hS
        have tcd : ((0 : Int) == 0) = true := beq_self_eq_true _
        obtain ⟨bb, hbb⟩ : ∃ bb, bb = (fdW F o i).isSome := ⟨_, rfl⟩
        obtain ⟨iv, hiv⟩ : ∃ iv, iv = idW F o i := ⟨_, rfl⟩
        rw [← hbb, ← hiv]
        have HBV := Lib.hid (And.intro hbb hiv)
        clear AC0 AH0 AT0 hfst hol GE HR hbb hiv
        subst eS
        go_wp2_with fail
        go_at_call 11
        refine (AF.out).mono ?_
        rintro e w6 ⟨hA, g6⟩
        rcases fnd_ans hA HRE.out with ⟨hr, rfl⟩ | ⟨q, Fp, hr, rfl, cF0, cF1⟩
        · obtain rfl : bb = false := by rw [HBV.out.1, hr]; rfl
          clear hA hr
          have HG6 := Lib.hid g6
          clear g6
          go_wp2_with fail
          go_at_call 12
          refine (AC.out _ HG6.out).mono ?_
          rintro e w8 ⟨rfl, g8⟩
          have HG8 := Lib.hid (Gr.trans HG6.out g8)
          clear g8
          go_wp2_with fail
          go_at_call 14
          refine (AH.out _ HG8.out).mono ?_
          rintro e w9 ⟨sv, rfl, S9, g9⟩
          have HS9 := Lib.hid S9
          obtain ⟨sa, sc, SB, so, rfl, -⟩ := S9
          have HG9 := Lib.hid (Gr.trans HG8.out g9)
          clear g9
          go_wp2_with fail
          go_at_call 13
          refine (AT.out _ HG9.out _ HS9.out).mono ?_
          rintro e w10 ⟨rfl, g10⟩
          have HG10 := Lib.hid (Gr.trans HG9.out g10)
          clear g10
          go_wp2_with fail
          go_at_call 8
          refine (p7_awake _).mono ?_
          rintro e w11 ⟨rfl, g11⟩
          go_wp2_with fail
          go_ret
          exact ⟨rfl, Gr.trans GWR.out (Gr.trans HG10.out g11)⟩
        · obtain rfl : bb = true := by rw [HBV.out.1, hr]; rfl
          obtain rfl : iv = q := by rw [HBV.out.2]; unfold idW; rw [hr]; rfl
          have r0 := cell_gr g6 cF0
          have r1 := cell_gr g6 cF1
          have zF := World.block_lt_of_cell? _ _ r0
          have tz : (o.toList != o.toList) = false := bne_self_eq_false _
          have tq : ((iv : Int) != iv) = false := bne_self_eq_false _
          clear hA hr cF0 cF1
          have HG6 := Lib.hid g6
          clear g6
          go_wp2_with fail
          go_at_call 12
          refine (AC.out _ HG6.out).mono ?_
          rintro e w8 ⟨rfl, g8⟩
          have HG8 := Lib.hid (Gr.trans HG6.out g8)
          clear g8
          go_wp2_with fail
          go_at_call 14
          refine (AH.out _ HG8.out).mono ?_
          rintro e w9 ⟨sv, rfl, S9, g9⟩
          have HS9 := Lib.hid S9
          obtain ⟨sa, sc, SB, so, rfl, -⟩ := S9
          have HG9 := Lib.hid (Gr.trans HG8.out g9)
          clear g9
          go_wp2_with fail
          go_at_call 13
          refine (AT.out _ HG9.out _ HS9.out).mono ?_
          rintro e w10 ⟨rfl, g10⟩
          have HG10 := Lib.hid (Gr.trans HG9.out g10)
          clear g10
          go_wp2_with fail
          go_at_call 8
          refine (p7_awake _).mono ?_
          rintro e w11 ⟨rfl, g11⟩
          go_wp2_with fail
          go_ret
          exact ⟨rfl, Gr.trans GWR.out (Gr.trans HG10.out g11)⟩
end Go.Proofs.Ytgmmhddlfalehaa
