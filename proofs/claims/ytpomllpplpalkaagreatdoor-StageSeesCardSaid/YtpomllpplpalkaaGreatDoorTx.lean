import Derived.Test.YtpomllpplpalkaaGreatDoorTm
import Derived.Test.YtpomllpplpalkaaGreatDoorUn
import Derived.Test.YtpomllpplpalkaaGreatDoorEw
import Derived.WalkSmall
import Derived.Test.YtpomllpplpalkaaGreatDoorEa
import Derived.Test.YtpomllpplpalkaaGreatDoorPa
import Derived.Test.YtpomllpplpalkaaGreatDoorH
import Derived.Test.YtpomllpplpalkaaGreatDoorTj
import Derived.Test.YtpomllpplpalkaaGreatDoorTh
import Derived.Test.YtpomllpplpalkaaGreatDoorTs
import Derived.Test.YtpomllpplpalkaaGreatDoorTr
/- model: Search of any map -/
namespace Go.Proofs.YtpomllpplpalkaaGreatDoor
set_option linter.unusedVariables false
set_option linter.unusedSimpArgs false
open Go.ChangeShapes Go.WideShapes Go.ChangeAt Go.RowKit Go.Maps Go.Sort

def OkS (σ : Int → Option MO) : Prop := ∀ z o, σ z = some o → objC o.k o.n o.X o.Y = 0
theorem okS_none : OkS (fun _ => none) := fun z o h => (by cases h)
theorem okS_ap {σ : Int → Option MO} {kd id k : Int} {n : Nat} {X Y : Nat → Int} (h : OkS σ) : OkS (apS σ kd id k n X Y) := by
  unfold apS
  split
  · exact h
  · rename_i h0
    split
    · rename_i h1
      intro z o ho
      unfold updS at ho
      by_cases e : z = id
      · rw [if_pos e] at ho
        obtain rfl := Option.some.inj ho
        have hc : chgC kd id k n X Y = 0 := by
          by_cases q : chgC kd id k n X Y = 0
          · exact q
          · have h2 : apN σ kd id k n X Y = chgC kd id k n X Y := if_pos q
            exact absurd (fun e => q (h2.symm.trans e)) h0
        rcases (chgC_ok hc).2.2 with ⟨-, ho⟩ | ⟨e2, -, -⟩
        · exact ho
        · omega
      · rw [if_neg e] at ho
        exact h z o ho
    · intro z o ho
      unfold updS at ho
      by_cases e : z = id
      · rw [if_pos e] at ho; cases ho
      · rw [if_neg e] at ho; exact h z o ho
section
variable (kq lx ly hx hy : Int) (m : Nat) (P R : Nat → Int)
def srB (σ : Int → Option MO) (z : Int) : Bool := match σ z with
  | some o => maA o.k o.n o.X o.Y kq lx ly hx hy m P R
  | none => false
def srL (σ : Int → Option MO) (l : List Int) : List Int := if qC kq lx ly hx hy m P R = 0 then l.filter (srB kq lx ly hx hy m P R σ) else []
end
theorem c_MatchesO {k : Int} {n : Nat} {X Y : Nat → Int} {v : Value} {m : Nat} {P Q : Nat → Int} {u : Value} (kq qlx qly qhx qhy : Int) (w : World) (h : Pts w v n X Y) (hu : Pts w u m P Q) (hc : objC k n X Y = 0) (hd : qC kq qlx qly qhx qhy m P Q = 0) : Calls Tryz.prog 74 #[.agg #[.int .i64 k, v], qryV kq qlx qly qhx qhy u] w fun e w' => e = .returned (.bool (maA k n X Y kq qlx qly qhx qhy m P Q)) ∧ Gr w w' := by
  have h4 : kq = 4 → (Rg.ringC m P Q).1 = 0 := fun h4 => by unfold qC at hd; rw [if_neg (by omega), if_neg (by omega), if_pos h4] at hd; exact hd
  unfold maA
  by_cases k4 : k = 4
  · subst k4
    rw [if_pos rfl]
    rw [objC_4] at hc
    exact c_MatchesP kq qlx qly qhx qhy w h hc hu h4
  · rw [if_neg k4]
    exact c_MatchesB kq qlx qly qhx qhy w (bl_of h hc k4).1 hu h4
def SearchTo (W : World) (r : List Int) (e : Ending) (w' : World) : Prop := ∃ v, e = .returned v ∧ w'.ownsRow W.heap.size 3 1 v r.length (r.map encZ) ∧ Gr W w'
theorem filter_take {l : List Int} {f : Int → Bool} {i : Nat} (hi : i < l.length) : (l.take (i + 1)).filter f = (l.take i).filter f ++ (if f (l.getD i 0) = true then [l.getD i 0] else []) := by
  rw [List.take_add_one, List.getElem?_eq_getElem hi, List.filter_append, List.getD_eq_getElem?_getD, List.getElem?_eq_getElem hi]
  show _ ++ List.filter f [l[i]] = _ ++ (if f l[i] = true then [l[i]] else [])
  cases h : f l[i] <;> simp [h]
set_option maxHeartbeats 8000000 in
set_option maxRecDepth 100000 in
theorem md_Search {Q N : Nat} {M : Option Nat} {σ : Int → Option MO} {l : List Int} (kq qlx qly qhx qhy : Int) {m : Nat} {P R : Nat → Int} {u : Value} (hl : Ids σ l) (hN : N ≤ 1000000) (hlN : l.length ≤ 100000) (hok : OkS σ) (W : World) (hM : MdAt W Q M σ N) (hu : Pts W u m P R) : Calls Tryz.prog 32 #[.pointer (some ⟨Q, 0, none⟩), qryV kq qlx qly qhx qhy u] W fun e w' => SearchTo W (srL kq qlx qly qhx qhy m P R σ l) e w' := by
  obtain ⟨i0, hi0, hz0, hz1, hz2⟩ := info_parts (P := Tryz.prog) (e := 3) (z := .int .i64 0) (size := 1) (bytes := 8) (by kernel_rfl)
  have HI := Lib.hid (And.intro hi0 (And.intro hz0 (And.intro hz1 hz2)))
  clear hi0 hz0 hz1 hz2
  have HM := Lib.hid hM
  have HL := Lib.hid hl
  have HK := Lib.hid hok
  have HU := Lib.hid hu
  have AI := Lib.hid (fun w (g : Gr W w) => md_idsS hl hN w (mdAt_gr hM g))
  have AQ := Lib.hid (fun w (g : Gr W w) => c_CheckQuery kq qlx qly qhx qhy w (pts_gr hu g))
  have c0 : W.cell? ⟨Q, 0, none⟩ = some (.map M) := Hm.cell_of_heap hM.1 0
  have hl9 : (l.length : Int) ≤ 100000 := by omega
  obtain ⟨ud, uc, _, _, rfl, -⟩ := hu
  obtain ⟨q, hq⟩ : ∃ q, q = qC kq qlx qly qhx qhy m P R := ⟨_, rfl⟩
  rw [← hq] at AQ
  have HQ := Lib.hid hq
  have HB0 : Hid (((W.alloc (.cells #[.int .i64 kq, .int .i64 qlx, .int .i64 qly, .int .i64 qhx, .int .i64 qhy, .slice ud m uc] 62)).alloc (.cells #[] 3)).heap[W.heap.size]? = some (.cells #[.int .i64 kq, .int .i64 qlx, .int .i64 qly, .int .i64 qhx, .int .i64 qhy, .slice ud m uc] 62 (0, 0))) := Lib.hid (heap_kx (S := fun _ => False) (a := W.alloc (.cells #[.int .i64 kq, .int .i64 qlx, .int .i64 qly, .int .i64 qhx, .int .i64 qhy, .slice ud m uc] 62)) (Kx.of_gr ((Below.refl _ _).alloc (Nat.le_refl _) _)) (fun h => h) (by show (W.heap.push _)[W.heap.size]? = _; exact Array.getElem?_push_size))
  have HO0 : Hid (((W.alloc (.cells #[.int .i64 kq, .int .i64 qlx, .int .i64 qly, .int .i64 qhx, .int .i64 qhy, .slice ud m uc] 62)).alloc (.cells #[] 3)).ownsRow W.heap.size 3 1 (.slice (some ⟨W.heap.size + 1, 0, none⟩) 0 0) 0 []) := Lib.hid (by
    have h := World.ownsRow_lit (base := W.heap.size) (e := 3) (size := 1) (W.alloc (.cells #[.int .i64 kq, .int .i64 qlx, .int .i64 qly, .int .i64 qhx, .int .i64 qhy, .slice ud m uc] 62)) #[] 0 (by simp) (by decide) (by simp)
    rw [show (W.alloc (.cells #[.int .i64 kq, .int .i64 qlx, .int .i64 qly, .int .i64 qhx, .int .i64 qhy, .slice ud m uc] 62)).heap.size = W.heap.size + 1 from by simp] at h
    exact h)
  obtain ⟨RR, hRR⟩ : ∃ RR, RR = srL kq qlx qly qhx qhy m P R σ l := ⟨_, rfl⟩
  rw [← hRR]
  have HRR := Lib.hid hRR
  clear hM hl hok hq hRR
  go_enter Tryz.func32, Tryz.ntmps32
  go_wp2_with fail
  go_at_call 73
  refine (AQ.out _ (by go_grown)).mono ?_
  rintro e w1 ⟨x, rfl, hx, g1⟩
  have HB1 := Lib.hid (heap_kx (S := fun _ => False) (Kx.of_gr g1) (fun h => h) HB0.out)
  have HO1 := Lib.hid (rowOwn_gr HO0.out g1)
  have HG1 : Hid (Gr W w1) := Lib.hid (Gr.trans (by go_grown) g1)
  clear g1 AQ HB0 HO0
  by_cases hq0 : q = 0
  · have hqc : qC kq qlx qly qhx qhy m P R = 0 := by rw [← HQ.out]; exact hq0
    rw [hq0] at hx
    obtain rfl := werr_0 hx
    have hsl : srL kq qlx qly qhx qhy m P R σ l = l.filter (srB kq qlx qly qhx qhy m P R σ) := if_pos hqc
    have HSL := Lib.hid hsl
    have HC := Lib.hid hqc
    have AI1 := Lib.hid (AI.out _ HG1.out)
    clear hx hqc hsl hq0
    go_wp2_with fail
    go_at_call 70
    refine (AI1.out).mono ?_
    rintro e w2 ⟨v, rfl, hrow, g2⟩
    obtain ⟨lad, lcap, Lb, rfl, hnil, -⟩ := own_ints hrow
    have HN := Lib.hid hnil
    obtain ⟨bz, hbz⟩ : ∃ bz, bz = w1.heap.size := ⟨_, rfl⟩
    rw [← hbz] at hrow
    have HR2 := Lib.hid hrow
    have HB2 := Lib.hid (heap_kx (S := fun _ => False) (Kx.of_gr g2) (fun h => h) HB1.out)
    have HO2 := Lib.hid (rowOwn_gr HO1.out g2)
    have HG2 := Lib.hid (Gr.trans HG1.out g2)
    have hsb : W.heap.size + 2 ≤ bz := by
      have h := (World.ownsRow.lt HO1.out (W.heap.size + 1) rfl).2
      omega
    clear hrow hnil g2 AI1 hbz
    go_wp2_with fail
    go_loopg [5, 16] l.length (fun mm a x wq => ∃ (i : Nat) (r : List Int), x = .int .i64 i ∧ i ≤ l.length ∧ mm = l.length - i ∧ Hid (r = (l.take i).filter (srB kq qlx qly qhx qhy m P R σ)) ∧ Hid (wq.ownsRow W.heap.size 3 1 a r.length (r.map encZ)) ∧ Hid (wq.ownsRow bz 3 1 (.slice lad l.length lcap) l.length (l.map encZ) ∧ (∀ k, a.ownBlock = some k → some k ≠ (Value.slice lad l.length lcap).ownBlock)) ∧ Hid (wq.heap[W.heap.size]? = some (.cells #[.int .i64 kq, .int .i64 qlx, .int .i64 qly, .int .i64 qhx, .int .i64 qhy, .slice ud m uc] 62 (0, 0))) ∧ Hid (Gr W wq))
    case atStart => exact ⟨0, [], rfl, Nat.zero_le _, by omega, Lib.hid rfl, HO2, Lib.hid ⟨HR2.out, fun k hk e => by
      have h1 : W.heap.size + 1 = k := by simpa [Value.ownBlock] using hk
      have h2 := (World.ownsRow.lt HR2.out k e.symm).1
      omega⟩, HB2, HG2⟩
    case round =>
      obtain ⟨i, r, rfl, hi, hk, HF, HA, HR, HB, HG⟩ := hrel
      by_cases hlt : i < l.length
      · have ti : decide ((i : Int) < (l.length : Int)) = true := decide_eq_true (by omega)
        have ti2 : decide (i < l.length) = true := decide_eq_true hlt
        have ti3 : (i : Int) < (l.length : Int) := by omega
        have ti5 : (i : Int) < (lcap : Int) := by
          obtain ⟨_, _, e, h1, -⟩ := own_any HR.out.1
          simp only [Value.slice.injEq] at e
          omega
        have hmm2 : l.length - (i + 1) < gk := by omega
        have hrl : r.length ≤ i := by
          rw [HF.out]
          exact Nat.le_trans (List.length_filter_le _ _) (by rw [List.length_take]; omega)
        obtain rfl := HN.out (by omega)
        have q0 : wr.cell? ⟨Lb, i, none⟩ = some (.int .i64 (l.getD i 0)) := by
          rw [HR.out.1.cellAt i (by omega), List.getElem?_map, List.getElem?_eq_getElem hlt, List.getD_eq_getElem?_getD, List.getElem?_eq_getElem hlt]
          rfl
        have hz : l.getD i 0 ∈ l := by rw [List.getD_eq_getElem?_getD, List.getElem?_eq_getElem hlt]; exact List.getElem_mem hlt
        obtain ⟨hzi, hzs⟩ := (HL.out.2 _).1 hz
        have htk := filter_take (f := srB kq qlx qly qhx qhy m P R σ) hlt
        generalize l.getD i 0 = z at q0 hz hzi hzs htk
        obtain ⟨o, ho⟩ := Option.isSome_iff_exists.1 hzs
        obtain ⟨mm, D, B, c, rfl, hD, hv, on, on2, hp⟩ := mdAt_some HM.out hzi ho
        obtain ⟨bo, hbo⟩ : ∃ bo, bo = srB kq qlx qly qhx qhy m P R σ z := ⟨_, rfl⟩
        have hbm : bo = maA o.k o.n o.X o.Y kq qlx qly qhx qhy m P R := by rw [hbo]; unfold srB; rw [ho]
        have hobj := HK.out z o ho
        obtain ⟨ok, oN, oX, oY⟩ := o
        simp only at hp hv hobj hbm
        have AS := Lib.hid (fun w (g : Gr wr w) => show Calls Tryz.prog 74 #[.agg #[.int .i64 ok, .slice (some ⟨B, 0, none⟩) oN c], qryV kq qlx qly qhx qhy (.slice ud m uc)] w (fun e w' => e = .returned (.bool bo) ∧ Gr w w') from by
          rw [hbm]
          exact c_MatchesO kq qlx qly qhx qhy w (pts_gr hp (Gr.trans HG.out g)) (pts_gr HU.out (Gr.trans HG.out g)) hobj HC.out)
        have HD := Lib.hid (And.intro hD hv)
        rw [← hbo] at htk
        have HT := Lib.hid (And.intro htk hzi)
        have p0 := cell_gr HG.out c0
        have b0 := Hm.cell_of_heap HB.out 0
        have b1 := Hm.cell_of_heap HB.out 1
        have b2 := Hm.cell_of_heap HB.out 2
        have b3 := Hm.cell_of_heap HB.out 3
        have b4 := Hm.cell_of_heap HB.out 4
        have b5 := Hm.cell_of_heap HB.out 5
        have b0 : wr.cell? ⟨W.heap.size, 0, none⟩ = some (.int .i64 kq) := b0
        have b1 : wr.cell? ⟨W.heap.size, 1, none⟩ = some (.int .i64 qlx) := b1
        have b2 : wr.cell? ⟨W.heap.size, 2, none⟩ = some (.int .i64 qly) := b2
        have b3 : wr.cell? ⟨W.heap.size, 3, none⟩ = some (.int .i64 qhx) := b3
        have b4 : wr.cell? ⟨W.heap.size, 4, none⟩ = some (.int .i64 qhy) := b4
        have b5 : wr.cell? ⟨W.heap.size, 5, none⟩ = some (.slice ud m uc) := b5
        have zL := World.block_lt_of_cell? _ _ q0
        have zQ := World.block_lt_of_cell? _ _ p0
        have zb := World.block_lt_of_cell? _ _ b0
        have hwr := HG.out.size
        clear hz hzs hD hv hp ho htk hzi hbo hbm hobj on on2
        go_wp2_with fail
        try simp only [List.append]
        refine Od.wp_region_ord [(0, false), (1, false), (2, false), (3, false), (4, false), (5, false), (6, false), (7, true)] (by kernel_rfl) (by kernel_rfl) ?_
        intro wa hwa KQ hKQ
        have cwa_0_0 : wa.cell? ⟨Q, 0, none⟩ = some (.map (some mm)) := cell_gr hwa (by go_simp)
        have zwa_0 : Q < wa.heap.size := World.block_lt_of_cell? _ _ cwa_0_0
        have cwa_1_0 : wa.cell? ⟨W.heap.size, 0, none⟩ = some (.int .i64 kq) := cell_gr hwa (by go_simp)
        have cwa_1_1 : wa.cell? ⟨W.heap.size, 1, none⟩ = some (.int .i64 qlx) := cell_gr hwa (by go_simp)
        have cwa_1_2 : wa.cell? ⟨W.heap.size, 2, none⟩ = some (.int .i64 qly) := cell_gr hwa (by go_simp)
        have cwa_1_3 : wa.cell? ⟨W.heap.size, 3, none⟩ = some (.int .i64 qhx) := cell_gr hwa (by go_simp)
        have cwa_1_4 : wa.cell? ⟨W.heap.size, 4, none⟩ = some (.int .i64 qhy) := cell_gr hwa (by go_simp)
        have cwa_1_5 : wa.cell? ⟨W.heap.size, 5, none⟩ = some (.slice ud m uc) := cell_gr hwa (by go_simp)
        have zwa_1 : W.heap.size < wa.heap.size := World.block_lt_of_cell? _ _ cwa_1_0
        have gwa : Gr wr wa := Gr.trans (by go_grown) hwa
        skip
        clear hwa
        repeat (first | (refine Od.wpO_skip (by simp only [List.getElem?_toArray, List.getElem?_cons_succ, List.getElem?_cons_zero] <;> rfl) rfl ?_; simp only [Act.put, List.setIfInBounds_toArray, List.set_cons_zero, List.set_cons_succ]) | (refine Od.wpO_pure (by simp only [List.getElem?_toArray, List.getElem?_cons_succ, List.getElem?_cons_zero] <;> rfl) rfl ?_; apply Exists.intro; refine ⟨?_, ?_⟩; (· intro wx gx; obtain ⟨mx, rfl⟩ := spread_of_gr gx; clear gx; all_goals (apply Od.pAt_of_quiet; intro K hK; go_big_quiet_op; first | exact hK _ rfl | (apply Exists.intro; refine ⟨fun _ => ?_, ?_⟩; (· fail); exact hK _ rfl))); try simp only [Act.put, List.setIfInBounds_toArray, List.set_cons_zero, List.set_cons_succ]))
        refine Od.wpO_pure (by simp only [List.getElem?_toArray, List.getElem?_cons_succ, List.getElem?_cons_zero] <;> rfl) rfl ?_
        refine ⟨(.agg #[.int .i64 ok, .slice (some ⟨B, 0, none⟩) oN c]), ?_, ?_⟩
        · intro wx gx; exact (md_pLook (.tmp 23) (.tmp 24) _ rfl 3 34 KI Tryz.underlying103 (zeroO _) mm N D rfl (ownsMap_kx (S := fun _ => False) HD.out.1 (Kx.of_gr (Gr.trans (Gr.trans HG.out gwa) gx)) (fun h => h)) (.int .i64 z) (zk z) rfl (zk_of HT.out.2) _ HD.out.2)
        try simp only [Act.put, List.setIfInBounds_toArray, List.set_cons_zero, List.set_cons_succ]
        repeat (first | (refine Od.wpO_skip (by simp only [List.getElem?_toArray, List.getElem?_cons_succ, List.getElem?_cons_zero] <;> rfl) rfl ?_; simp only [Act.put, List.setIfInBounds_toArray, List.set_cons_zero, List.set_cons_succ]) | (refine Od.wpO_pure (by simp only [List.getElem?_toArray, List.getElem?_cons_succ, List.getElem?_cons_zero] <;> rfl) rfl ?_; apply Exists.intro; refine ⟨?_, ?_⟩; (· intro wx gx; obtain ⟨mx, rfl⟩ := spread_of_gr gx; clear gx; all_goals (apply Od.pAt_of_quiet; intro K hK; go_big_quiet_op; first | exact hK _ rfl | (apply Exists.intro; refine ⟨fun _ => ?_, ?_⟩; (· fail); exact hK _ rfl))); try simp only [Act.put, List.setIfInBounds_toArray, List.set_cons_zero, List.set_cons_succ]))
        refine Od.wpO_call (by simp only [List.getElem?_toArray, List.getElem?_cons_succ, List.getElem?_cons_zero] <;> rfl) rfl ?_
        intro QS hQS
        go_wp2_with fail
        go_at_call 74
        (with_reducible refine ((AS.out _ gwa)).mono ?_)
        rintro e wb ⟨rfl, hwb⟩
        go_wp2_with fail
        apply Exists.intro
        refine ⟨?_, hwb, ?_⟩
        · simp only [Act.put, List.setIfInBounds_toArray, List.set_cons_zero, List.set_cons_succ]; rfl
        have cwb_0_0 : wb.cell? ⟨Q, 0, none⟩ = some (.map (some mm)) := cell_gr hwb (by go_simp)
        have zwb_0 : Q < wb.heap.size := World.block_lt_of_cell? _ _ cwb_0_0
        have cwb_1_0 : wb.cell? ⟨W.heap.size, 0, none⟩ = some (.int .i64 kq) := cell_gr hwb (by go_simp)
        have cwb_1_1 : wb.cell? ⟨W.heap.size, 1, none⟩ = some (.int .i64 qlx) := cell_gr hwb (by go_simp)
        have cwb_1_2 : wb.cell? ⟨W.heap.size, 2, none⟩ = some (.int .i64 qly) := cell_gr hwb (by go_simp)
        have cwb_1_3 : wb.cell? ⟨W.heap.size, 3, none⟩ = some (.int .i64 qhx) := cell_gr hwb (by go_simp)
        have cwb_1_4 : wb.cell? ⟨W.heap.size, 4, none⟩ = some (.int .i64 qhy) := cell_gr hwb (by go_simp)
        have cwb_1_5 : wb.cell? ⟨W.heap.size, 5, none⟩ = some (.slice ud m uc) := cell_gr hwb (by go_simp)
        have zwb_1 : W.heap.size < wb.heap.size := World.block_lt_of_cell? _ _ cwb_1_0
        have gwb : Gr wr wb := Gr.trans (by have gg := gwa; have gs := gg.size; go_grown) hwb
        clear gwa zwa_0 cwa_0_0 zwa_1 cwa_1_0 cwa_1_1 cwa_1_2 cwa_1_3 cwa_1_4 cwa_1_5
        clear hwb
        try simp only [Act.put, List.setIfInBounds_toArray, List.set_cons_zero, List.set_cons_succ]
        repeat (first | (refine Od.wpO_skip (by simp only [List.getElem?_toArray, List.getElem?_cons_succ, List.getElem?_cons_zero] <;> rfl) rfl ?_; simp only [Act.put, List.setIfInBounds_toArray, List.set_cons_zero, List.set_cons_succ]) | (refine Od.wpO_pure (by simp only [List.getElem?_toArray, List.getElem?_cons_succ, List.getElem?_cons_zero] <;> rfl) rfl ?_; apply Exists.intro; refine ⟨?_, ?_⟩; (· intro wx gx; obtain ⟨mx, rfl⟩ := spread_of_gr gx; clear gx; all_goals (apply Od.pAt_of_quiet; intro K hK; go_big_quiet_op; first | exact hK _ rfl | (apply Exists.intro; refine ⟨fun _ => ?_, ?_⟩; (· fail); exact hK _ rfl))); try simp only [Act.put, List.setIfInBounds_toArray, List.set_cons_zero, List.set_cons_succ]))
        refine Od.wpO_nil (hKQ _ _ ?_)
        clear hKQ KQ
        have HGb := Lib.hid gwb
        have sb := gwb.size
        cases bo with
        | false =>
          go_wp2_with fail
          go_roundg (l.length - (i + 1))
          case measure => omega
          case rel => exact ⟨i + 1, r, by go_num, by omega, rfl, Lib.hid (by rw [HT.out.1, HF.out]; exact (List.append_nil _).symm), Lib.hid (rowOwn_gr HA.out HGb.out), Lib.hid ⟨rowOwn_gr HR.out.1 HGb.out, HR.out.2⟩, Lib.hid (heap_kx (S := fun _ => False) (Kx.of_gr HGb.out) (fun h => h) HB.out), Lib.hid (Gr.trans HG.out HGb.out)⟩
        | true =>
          go_wp2_with (at_builtin; go_loud ((refine wpList_append_own2 _ rfl (.tmp 28) (.tmp 30) 65 rfl W.heap.size 3 i0 (.int .i64 0) 1 8 Tryz.underlying65 HI.out.1 HI.out.2.1 HI.out.2.2.1 HI.out.2.2.2 rfl (by decide) u5 r.length (r.map encZ) rfl (rowOwn_gr HA.out (Gr.trans HGb.out ((Below.refl _ _).alloc (Nat.le_refl _) _))) ⟨wb.heap.size, 0, none⟩ 1 1 [.int .i64 z] rfl rfl (cells_newT _ _ _ _ rfl) (by intro u hu; simp only [List.mem_cons, List.not_mem_nil, or_false] at hu; rcases hu with rfl; rfl) (by unfold maxLen; omega) (by omega) (by simp; omega) ?_); intro x5 w5 o5 g5; (have HO5 := Lib.hid (And.intro o5 g5)); clear o5 g5))
          have HG4 : Hid (Gr wr (wb.alloc (.cells #[.int .i64 z] 3))) := Lib.hid (Gr.trans HGb.out ((Below.refl _ _).alloc (Nat.le_refl _) _))
          have hal : (wb.alloc (.cells #[.int .i64 z] 3)).heap.size = wb.heap.size + 1 := by simp
          go_roundg (l.length - (i + 1))
          case measure => omega
          case rel =>
            refine ⟨i + 1, r ++ [z], by go_num, by omega, rfl, Lib.hid (by rw [HT.out.1, HF.out]; rfl), Lib.hid (by rw [List.length_append, List.map_append]; exact HO5.out.1), Lib.hid ⟨rowOwn_kxS (rowOwn_gr HR.out.1 HG4.out) (kx_grown HO5.out.2) (fun k hk e => HR.out.2 k e hk.symm), fun k hk e => ?_⟩, Lib.hid (heap_kx (kx_grown HO5.out.2) (fun e => ?_) (heap_kx (S := fun _ => False) (Kx.of_gr HG4.out) (fun h => h) HB.out)), Lib.hid (HO5.out.2.gr (Gr.trans HG.out HG4.out) (fun k hk => (World.ownsRow.lt HA.out k hk).1))⟩
            · have h1 := HO5.out.2.2 k hk
              rcases h1 with h1 | h1
              · exact HR.out.2 k h1 e
              · have h2 := (World.ownsRow.lt HR.out.1 k e.symm).2
                rw [hal] at h1
                omega
            · obtain ⟨-, cur, hc⟩ := own_tyC HA.out e
              rw [HB.out] at hc
              simp at hc
      · obtain rfl : i = l.length := by omega
        have ti : decide ((l.length : Int) < (l.length : Int)) = false := decide_eq_false (by omega)
        have ti2 : decide (l.length < l.length) = false := decide_eq_false (by omega)
        have hr : r = l.filter (srB kq qlx qly qhx qhy m P R σ) := by rw [HF.out, List.take_length]
        clear hk
        go_wp2_with fail
        go_ret
        rw [HRR.out.trans (HSL.out.trans hr.symm)]
        exact ⟨_, rfl, HA.out, HG.out⟩
  · have hsl : srL kq qlx qly qhx qhy m P R σ l = [] := if_neg (fun h => hq0 (HQ.out.trans h))
    have HSL := Lib.hid hsl
    rcases hx with ⟨-, h⟩ | ⟨F, y, d, rfl, -, -, -, -, -, -⟩
    · exact absurd h hq0
    clear hsl hq0
    go_wp2_with fail
    go_ret
    rw [HRR.out.trans HSL.out]
    exact ⟨_, rfl, HO1.out, HG1.out⟩
end Go.Proofs.YtpomllpplpalkaaGreatDoor
/- stage's law: change, a stage's Search, Ints -/
namespace Go.Proofs.YtpomllpplpalkaaGreatDoor
set_option linter.unusedVariables false
set_option linter.unusedSimpArgs false
open Go.ChangeShapes Go.WideShapes Go.ChangeAt Go.RowKit Go.Maps

theorem okS_stM (D : Nat → MChg) : ∀ i, OkS (stM D i)
  | 0 => okS_none
  | i + 1 => okS_ap (okS_stM D i)
theorem okS_apL : ∀ (G : List CS) (s : Int → Option MO), OkS s → OkS (apL s G)
  | [], _, h => h
  | c :: G, s, h => okS_apL G (aps s c) (okS_ap h)
def chgV (kd id k : Int) (v : Value) : Value := if kd = 2 then .agg #[.int .i64 2, .int .i64 id, .int .i64 0, .slice none 0 0] else .agg #[.int .i64 1, .int .i64 id, .int .i64 k, v]
set_option maxRecDepth 100000 in
theorem st_change (kd id k : Int) (ad : Option Addr) (n c : Nat) (W : World) : Calls Tryz.prog 29 #[.agg #[.int .i64 kd, .int .i64 id, .int .i64 k, .slice ad n c]] W fun e w' => e = .returned (chgV kd id k (.slice ad n c)) ∧ Gr W w' := by
  by_cases h : kd = 2
  · have t : (kd == 2) = true := by simpa using h
    rw [show chgV kd id k (.slice ad n c) = .agg #[.int .i64 2, .int .i64 id, .int .i64 0, .slice none 0 0] from if_pos h]
    clear h
    go_enter Tryz.func29, Tryz.ntmps29
    go_wp2_with fail
    refine bodyPost_ret (res_chg (p := 2) (N := W.heap.size + 1) (a := 2) (b := id) (c := 0) (u := .slice none 0 0) rfl (by first | rfl | simp) (by go_simp) (by go_simp) (by go_simp) (by go_simp)) rfl ⟨rfl, by go_grown⟩
  · have t : (kd == 2) = false := by simpa using h
    rw [show chgV kd id k (.slice ad n c) = .agg #[.int .i64 1, .int .i64 id, .int .i64 k, .slice ad n c] from if_neg h]
    clear h
    go_enter Tryz.func29, Tryz.ntmps29
    go_wp2_with fail
    refine bodyPost_ret (res_chg (p := 2) (N := W.heap.size + 1) (a := 1) (b := id) (c := k) (u := .slice ad n c) rfl (by first | rfl | simp) (by go_simp) (by go_simp) (by go_simp) (by go_simp)) rfl ⟨rfl, by go_grown⟩
section
variable {W w : World} {N k : Nat} {Q : Nat → Nat} {M : Nat → Option Nat} {σ : Nat → Int → Option MO} {S b j : Nat} {op : Bool} {G : List CS}
set_option maxHeartbeats 2000000 in
set_option maxRecDepth 100000 in
theorem st_Search {l : List Int} (kq qlx qly qhx qhy : Int) {m : Nat} {P R : Nat → Int} {u : Value} (F : StF W w N k Q M σ S b j op G) (hl : Ids (σ j) l) (hN : N ≤ 1000000) (hlN : l.length ≤ 100000) (hok : OkS (σ j)) (hu : Pts w u m P R) : Calls Tryz.prog 31 #[.pointer (some ⟨S, 0, none⟩), qryV kq qlx qly qhx qhy u] w fun e w' => SearchTo w (srL kq qlx qly qhx qhy m P R (σ j) l) e w' := by
  obtain ⟨cv, L, h, -⟩ := F.row
  have c1 : w.cell? ⟨S, 1, none⟩ = some (.pointer (some ⟨Q j, 0, none⟩)) := Hm.cell_of_heap h 1
  have z := World.block_lt_of_cell? _ _ c1
  have AS := Lib.hid (fun w' (g : Gr w w') => md_Search kq qlx qly qhx qhy hl hN hlN hok w' (mdAt_gr (F.fam.md j F.hj) g) (pts_gr hu g))
  obtain ⟨ud, uc, _, _, rfl, -⟩ := hu
  obtain ⟨qj, hqj⟩ : ∃ qj, qj = Q j := ⟨_, rfl⟩
  rw [← hqj] at c1 AS
  clear h F hl hok hqj
  go_enter Tryz.func31, Tryz.ntmps31
  go_wp2_with fail
  try simp only [List.append]
  refine Od.wp_region_ord [(0, false), (1, false), (2, false), (3, false), (4, false), (5, true), (6, false)] (by kernel_rfl) (by kernel_rfl) ?_
  intro w1 hw1 KQ hKQ
  have cw1_0_0 : w1.cell? ⟨w.heap.size, 0, none⟩ = some (.int .i64 kq) := cell_gr hw1 (by go_simp)
  have cw1_0_1 : w1.cell? ⟨w.heap.size, 1, none⟩ = some (.int .i64 qlx) := cell_gr hw1 (by go_simp)
  have cw1_0_2 : w1.cell? ⟨w.heap.size, 2, none⟩ = some (.int .i64 qly) := cell_gr hw1 (by go_simp)
  have cw1_0_3 : w1.cell? ⟨w.heap.size, 3, none⟩ = some (.int .i64 qhx) := cell_gr hw1 (by go_simp)
  have cw1_0_4 : w1.cell? ⟨w.heap.size, 4, none⟩ = some (.int .i64 qhy) := cell_gr hw1 (by go_simp)
  have cw1_0_5 : w1.cell? ⟨w.heap.size, 5, none⟩ = some (.slice ud m uc) := cell_gr hw1 (by go_simp)
  have zw1_0 : w.heap.size < w1.heap.size := World.block_lt_of_cell? _ _ cw1_0_0
  have cw1_1_0 : w1.cell? ⟨S, 1, none⟩ = some (.pointer (some ⟨qj, 0, none⟩)) := cell_gr hw1 (by go_simp)
  have zw1_1 : S < w1.heap.size := World.block_lt_of_cell? _ _ cw1_1_0
  have gw1 : Gr w w1 := Gr.trans (by go_grown) hw1
  skip
  clear hw1
  repeat (first | (refine Od.wpO_skip (by simp only [List.getElem?_toArray, List.getElem?_cons_succ, List.getElem?_cons_zero] <;> rfl) rfl ?_; simp only [Act.put, List.setIfInBounds_toArray, List.set_cons_zero, List.set_cons_succ]) | (refine Od.wpO_pure (by simp only [List.getElem?_toArray, List.getElem?_cons_succ, List.getElem?_cons_zero] <;> rfl) rfl ?_; apply Exists.intro; refine ⟨?_, ?_⟩; (· intro wx gx; obtain ⟨mx, rfl⟩ := spread_of_gr gx; clear gx; all_goals (apply Od.pAt_of_quiet; intro K hK; go_big_quiet_op; first | exact hK _ rfl | (apply Exists.intro; refine ⟨fun _ => ?_, ?_⟩; (· fail); exact hK _ rfl))); try simp only [Act.put, List.setIfInBounds_toArray, List.set_cons_zero, List.set_cons_succ]))
  have hs12 := gw1.size
  refine Od.wpO_call (by simp only [List.getElem?_toArray, List.getElem?_cons_succ, List.getElem?_cons_zero] <;> rfl) rfl ?_
  intro QS hQS
  go_wp2_with fail
  go_at_call 32
  (with_reducible refine ((AS.out _ gw1)).mono ?_)
  rintro e w2 ⟨v2, rfl, hr2, hw2⟩
  go_wp2_with fail
  apply Exists.intro
  refine ⟨?_, hw2, ?_⟩
  · simp only [Act.put, List.setIfInBounds_toArray, List.set_cons_zero, List.set_cons_succ]; rfl
  have cw2_0_0 : w2.cell? ⟨w.heap.size, 0, none⟩ = some (.int .i64 kq) := cell_gr hw2 (by go_simp)
  have cw2_0_1 : w2.cell? ⟨w.heap.size, 1, none⟩ = some (.int .i64 qlx) := cell_gr hw2 (by go_simp)
  have cw2_0_2 : w2.cell? ⟨w.heap.size, 2, none⟩ = some (.int .i64 qly) := cell_gr hw2 (by go_simp)
  have cw2_0_3 : w2.cell? ⟨w.heap.size, 3, none⟩ = some (.int .i64 qhx) := cell_gr hw2 (by go_simp)
  have cw2_0_4 : w2.cell? ⟨w.heap.size, 4, none⟩ = some (.int .i64 qhy) := cell_gr hw2 (by go_simp)
  have cw2_0_5 : w2.cell? ⟨w.heap.size, 5, none⟩ = some (.slice ud m uc) := cell_gr hw2 (by go_simp)
  have zw2_0 : w.heap.size < w2.heap.size := World.block_lt_of_cell? _ _ cw2_0_0
  have cw2_1_0 : w2.cell? ⟨S, 1, none⟩ = some (.pointer (some ⟨qj, 0, none⟩)) := cell_gr hw2 (by go_simp)
  have zw2_1 : S < w2.heap.size := World.block_lt_of_cell? _ _ cw2_1_0
  have gw2 : Gr w w2 := Gr.trans (by have gg := gw1; have gs := gg.size; go_grown) hw2
  clear gw1 zw1_0 cw1_0_0 cw1_0_1 cw1_0_2 cw1_0_3 cw1_0_4 cw1_0_5 zw1_1 cw1_1_0
  clear hw2
  try simp only [Act.put, List.setIfInBounds_toArray, List.set_cons_zero, List.set_cons_succ]
  repeat (first | (refine Od.wpO_skip (by simp only [List.getElem?_toArray, List.getElem?_cons_succ, List.getElem?_cons_zero] <;> rfl) rfl ?_; simp only [Act.put, List.setIfInBounds_toArray, List.set_cons_zero, List.set_cons_succ]) | (refine Od.wpO_pure (by simp only [List.getElem?_toArray, List.getElem?_cons_succ, List.getElem?_cons_zero] <;> rfl) rfl ?_; apply Exists.intro; refine ⟨?_, ?_⟩; (· intro wx gx; obtain ⟨mx, rfl⟩ := spread_of_gr gx; clear gx; all_goals (apply Od.pAt_of_quiet; intro K hK; go_big_quiet_op; first | exact hK _ rfl | (apply Exists.intro; refine ⟨fun _ => ?_, ?_⟩; (· fail); exact hK _ rfl))); try simp only [Act.put, List.setIfInBounds_toArray, List.set_cons_zero, List.set_cons_succ]))
  have HR2 := Lib.hid hr2
  clear hr2
  refine Od.wpO_nil (hKQ _ _ ?_)
  clear hKQ KQ
  go_wp2_with fail
  go_ret
  exact ⟨_, rfl, own_monoT HR2.out hs12, gw2⟩
end
set_option maxHeartbeats 2000000 in
set_option maxRecDepth 100000 in
theorem al_Ints {u v : Value} {r : List Int} {b1 b2 e1 e2 : Nat} (hr : r.length ≤ 1000000) (W : World) (hu : W.ownsRow b1 e1 1 u r.length (r.map encZ)) (hv : W.ownsRow b2 e2 1 v r.length (r.map encZ)) : Calls Tryz.prog 30 #[u, v] W fun e w' => e = .returned (.bool true) ∧ Gr W w' := by
  obtain ⟨ad, cap, D, rfl, a3, a4⟩ := own_ints hu
  obtain ⟨bd, cbp, C, rfl, b3, b4⟩ := own_ints hv
  obtain ⟨_, _, eu, hc1, hc1'⟩ := own_any hu
  obtain ⟨_, _, ev, hc2, hc2'⟩ := own_any hv
  simp only [Value.slice.injEq] at eu ev
  obtain ⟨rfl, -, rfl⟩ := eu
  obtain ⟨rfl, -, rfl⟩ := ev
  have H3 := Lib.hid (And.intro a3 b3)
  have H4 := Lib.hid (And.intro a4 b4)
  have hn9 : (r.length : Int) ≤ 1000000 := by omega
  clear a3 a4 b3 b4 hu hv
  go_enter Tryz.func30, Tryz.ntmps30
  go_wp2_with fail
  go_loopg [5] r.length (fun m x wr => ∃ i : Nat, x = .int .i64 i ∧ i ≤ r.length ∧ m = r.length - i ∧ Gr W wr)
  case atStart => exact ⟨0, rfl, Nat.zero_le _, by omega, Below.refl _ _⟩
  case round =>
    obtain ⟨i, rfl, hi, hk, gwr⟩ := hrel
    by_cases hlt : i < r.length
    · have ti : decide ((i : Int) < (r.length : Int)) = true := decide_eq_true (by omega)
      have ti2 : decide (i < r.length) = true := decide_eq_true hlt
      have ti3 : (i : Int) < (r.length : Int) := by omega
      have ti4 : (i : Int) < (cap : Int) := by omega
      have ti5 : (i : Int) < (cbp : Int) := by omega
      have hmm2 : r.length - (i + 1) < gk := by omega
      obtain rfl := H3.out.1 (by omega)
      obtain rfl := H3.out.2 (by omega)
      have p0 := cell_gr gwr (H4.out.1 i hlt)
      have p1 := cell_gr gwr (H4.out.2 i hlt)
      generalize r.getD i 0 = z at p0 p1
      have zD := World.block_lt_of_cell? _ _ p0
      have zC := World.block_lt_of_cell? _ _ p1
      have tz : (z != z) = false := by simp
      go_wp2_with fail
      refine wp_region_spread (by kernel_rfl) (by kernel_rfl) ?_
      try simp only [List.append]
      repeat (first | go_big_quiet_skip | (go_big_quiet_want; go_big_quiet_op; (first | go_big_quiet_on | (apply Exists.intro; refine ⟨fun _ => ?_, ?_⟩; (· fail); go_big_quiet_on))))
      refine wpQuiet_nil ?_
      intro w1 hhw1
      have hw1 := Hd.gr_of_spread hhw1
      have cw1_0_0 : w1.cell? ⟨D, i, none⟩ = some (.int .i64 z) := cell_gr hw1 (by go_simp)
      have zw1_0 : D < w1.heap.size := World.block_lt_of_cell? _ _ cw1_0_0
      have cw1_1_0 : w1.cell? ⟨C, i, none⟩ = some (.int .i64 z) := cell_gr hw1 (by go_simp)
      have zw1_1 : C < w1.heap.size := World.block_lt_of_cell? _ _ cw1_1_0
      have gw1 : Gr W w1 := Gr.trans (by have gg := gwr; have gs := gg.size; go_grown) hw1
      clear hw1 hhw1 gwr
      go_wp2_with fail
      go_roundg (r.length - (i + 1))
      case measure => omega
      case rel => exact ⟨i + 1, by go_num, by omega, rfl, gw1⟩
    · obtain rfl : i = r.length := by omega
      have ti : decide ((r.length : Int) < (r.length : Int)) = false := decide_eq_false (by omega)
      have ti2 : decide (r.length < r.length) = false := decide_eq_false (by omega)
      clear hk
      go_wp2_with fail
      go_ret
      exact ⟨rfl, gwr⟩
end Go.Proofs.YtpomllpplpalkaaGreatDoor
