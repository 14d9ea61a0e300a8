import Derived.Test.YtpomllpplpalkaaGreatDoorTh
import Derived.Test.YtpomllpplpalkaaGreatDoorWd
/- stage: Net -/
namespace Go.Proofs.YtpomllpplpalkaaGreatDoor
set_option linter.unusedVariables false
set_option linter.unusedSimpArgs false
open Go.ChangeShapes Go.WideShapes Go.ChangeAt Go.RowKit Go.Maps Go.Sort

def KM (K : DataW Value) (L : List MChg) : Prop := ∀ z, i64R z → (Maps.has K (zk z) = true ↔ ∃ c, c ∈ L ∧ c.id = z)
theorem kM_nil : KM (.map []) [] := fun z _ => by
  rw [show Maps.has (.map [] : DataW Value) (zk z) = false from rfl]
  simp
theorem kM_put {K : DataW Value} {L : List MChg} {c : MChg} {v : Value} (h : KM K L) (hI : IsMap K) (hc : i64R c.id) : KM (K.put (zk c.id) (.held v)) (L ++ [c]) := fun z hz => by
  by_cases e : z = c.id
  · subst e
    rw [has_put_same hI (zk_key _) _]
    simp
  · rw [has_put_other (zk_ne e), h z hz]
    constructor
    · rintro ⟨x, hx, e2⟩
      exact ⟨x, List.mem_append_left _ hx, e2⟩
    · rintro ⟨x, hx, e2⟩
      rcases List.mem_append.1 hx with h1 | h1
      · exact ⟨x, h1, e2⟩
      · obtain rfl := List.mem_singleton.1 h1
        exact absurd e2.symm e
theorem take_oneM {L : List MChg} {i : Nat} (hi : i < L.length) : L.take (i + 1) = L.take i ++ [L.getD i MChg.nul] := by
  rw [List.take_add_one, List.getElem?_eq_getElem hi, List.getD_eq_getElem?_getD, List.getElem?_eq_getElem hi]
  rfl
theorem own_oth2 {a b : World} {base1 base2 s1 s2 n1 n2 : Nat} {T U : TypeId} {v1 v2 : Value} {xs1 xs2 : List Value} {v1' : Value} (h2 : a.ownsRow base2 U s2 v2 n2 xs2) (h1 : a.ownsRow base1 T s1 v1 n1 xs1) (hT : T ≠ U) (g : Grown a b v1 v1') : b.ownsRow base2 U s2 v2 n2 xs2 :=
  rowOwn_kxS h2 (kx_grown g) (fun k hk e => by
    obtain ⟨-, cur, hc⟩ := own_tyC h2 hk
    obtain ⟨-, cur', hc'⟩ := own_tyC h1 e
    rw [hc] at hc'
    simp at hc'
    exact hT hc'.2.symm)
section
variable {W w : World} {N k : Nat} {Q : Nat → Nat} {M : Nat → Option Nat} {σ : Nat → Int → Option MO} {S b j : Nat} {op : Bool} {G : List CS}
def NetTo (w : World) (s t : Int → Option MO) (G : List CS) (e : Ending) (w' : World) : Prop := ∃ l, KIds (fun z => ∃ c, c ∈ G ∧ c.id = z) l ∧ l.length ≤ G.length ∧ ChgsTo w (netL s t l) e w'
set_option maxHeartbeats 8000000 in
set_option maxRecDepth 100000 in
theorem st_Net (F : StF W w N k Q M σ S b j op G) (hG : G.length ≤ 1000) : Calls Tryz.prog 22 #[.pointer (some ⟨S, 0, none⟩)] w fun e w' => NetTo w (σ b) (σ j) G e w' := by
  obtain ⟨i0, hi0, hz0, hz1, hz2⟩ := info_parts (P := Tryz.prog) (e := 50) (z := .agg #[.int .i64 0, .int .i64 0, .int .i64 0, .slice none 0 0]) (size := 4) (bytes := 48) (by kernel_rfl)
  have HI := Lib.hid (And.intro hi0 (And.intro hz0 (And.intro hz1 hz2)))
  clear hi0 hz0 hz1 hz2
  have hmm := @run_makeMap Tryz.prog
  have HF := Lib.hid F
  have AC := Lib.hid (fun w' (g : Gr w w') => st_Changes (F.to g) hG)
  obtain ⟨cv0, L0, hh, -, -⟩ := F.row
  have s0 : w.cell? ⟨S, 0, none⟩ = some (.pointer (some ⟨Q b, 0, none⟩)) := Hm.cell_of_heap hh 0
  have s1 : w.cell? ⟨S, 1, none⟩ = some (.pointer (some ⟨Q j, 0, none⟩)) := Hm.cell_of_heap hh 1
  have HS := Lib.hid (And.intro s0 s1)
  have HO0 : Hid ((w.alloc (.map #[] 0)).ownsMap Tryz.prog 3 heldE w.heap.size 0 (.map [])) := Lib.hid (World.ownsMap_made w Tryz.prog 3 heldE)
  clear F hh s0 s1 cv0 L0
  go_enter Tryz.func22, Tryz.ntmps22
  go_wp2_with fail
  have hG0 : Gr w (w.alloc (.map #[] 0)) := (Below.refl _ _).alloc (Nat.le_refl _) _
  go_at_call 17
  refine (AC.out _ hG0).mono ?_
  rintro e w1 ⟨v, L, rfl, hr, hL, g1⟩
  obtain ⟨ad, cap, rfl, hcp, hcp2⟩ := own_any hr.own
  have hlen : L.length ≤ 1000 := by
    have := congrArg List.length hL
    rw [List.length_map] at this
    omega
  have hlen9 : (L.length : Int) ≤ 1000 := by omega
  obtain ⟨D, hD⟩ := chRow_at hr
  have HD := Lib.hid hD
  have HL := Lib.hid hL
  have HO1 := Lib.hid (ownsMap_kx HO0.out (Kx.of_gr (S := fun _ => False) g1) (fun h => h))
  have HG1 := Lib.hid (Gr.trans hG0 g1)
  have hDm : Hid (∀ i, i < L.length → D ≠ w.heap.size) := Lib.hid (fun i hi e => by
    obtain ⟨-, h0, -⟩ := hD i hi
    obtain ⟨es, cl, hm⟩ := ownsMap_heap HO1.out
    exact cell_neM h0 hm e)
  clear hr hL hD hG0 g1 AC HO0
  go_wp2_with fail
  go_loopg [17] L.length (fun m x wr => ∃ (i : Nat) (K : DataW Value), x = .int .i64 i ∧ i ≤ L.length ∧ m = L.length - i ∧ Hid (KM K (L.take i)) ∧ Hid (wr.ownsMap Tryz.prog 3 heldE w.heap.size i K) ∧ Hid (Kx (fun j => j = w.heap.size) w1 wr))
  case atStart => exact ⟨0, _, rfl, Nat.zero_le _, by omega, Lib.hid kM_nil, HO1, Lib.hid (Kx.refl w1)⟩
  case round =>
    obtain ⟨i, K, rfl, hi, hk, HK, HO, HX⟩ := hrel
    have HGr := Lib.hid (Kx.gr HX.out HG1.out (fun j hj => Nat.le_of_eq (show w.heap.size = j from hj.symm)))
    by_cases hlt : i < L.length
    · have ti : decide ((i : Int) < (L.length : Int)) = true := decide_eq_true (by omega)
      have ti2 : decide (i < L.length) = true := decide_eq_true hlt
      have ti3 : (i : Int) < (L.length : Int) := by omega
      have ti4 : (i : Int) < (cap : Int) := by omega
      have hmm2 : L.length - (i + 1) < gk := by omega
      have hs := take_oneM hlt
      obtain ⟨rfl, q0, q1, q2, q3, q4, q5, q6⟩ := HD.out i hlt
      have hne := hDm.out i hlt
      rcases ec : L.getD i MChg.nul with ⟨kd, id, kk, vv, m, X, Y⟩
      rw [ec] at q0 q1 q2 q3 q4 q5 q6 hs
      simp only at q0 q1 q2 q3 q4 q5 q6 hs
      obtain ⟨pad, pcap, _, _, rfl, _⟩ := q4.1
      have HS2 := Lib.hid (And.intro hs q5)
      have p0 := cell_kx (p := ⟨D, i * 4, none⟩) HX.out hne q0
      have p1 := cell_kx (p := ⟨D, i * 4 + 1, none⟩) HX.out hne q1
      have p2 := cell_kx (p := ⟨D, i * 4 + 2, none⟩) HX.out hne q2
      have p3 := cell_kx (p := ⟨D, i * 4 + 3, none⟩) HX.out hne q3
      have zD := World.block_lt_of_cell? _ _ p0
      have zm := HO.out.lt
      clear q0 q1 q2 q3 q4 q5 q6 hs ec hne
      go_wp2_with (at_mapUpdate; go_loud ((refine wpList_mapUpdate_own _ rfl _ _ _ 117 rfl 3 118 KI Tryz.underlying117 heldE w.heap.size i K rfl (ownsMap_kx (b := _) HO.out (Kx.of_gr (S := fun _ => False) (by go_grown)) (fun h => h)) (by unfold maxLen; omega) _ _ (zk id) rfl rfl (zk_of HS2.out.2) (.held (.agg #[])) [] rfl ?_); intro w4 m4 g4; (have HM4 := Lib.hid (And.intro m4 (md_mapGrown g4))); clear m4 g4))
      go_roundg (L.length - (i + 1))
      case measure => omega
      case rel =>
        exact ⟨i + 1, _, by go_num, by omega, rfl, Lib.hid (by
          rw [HS2.out.1]
          exact kM_put (c := ⟨kd, id, kk, .slice pad m pcap, m, X, Y⟩) HK.out HO.out.isMap HS2.out.2), Lib.hid HM4.out.1, Lib.hid (HX.out.trans ((Kx.of_gr (by go_grown)).trans HM4.out.2))⟩
    · obtain rfl : i = L.length := by omega
      have ti : decide ((L.length : Int) < (L.length : Int)) = false := decide_eq_false (by omega)
      have ti2 : decide (L.length < L.length) = false := decide_eq_false (by omega)
      have hsz : Maps.size K ≤ L.length := HO.out.size_le
      have hkm := HK.out
      rw [List.take_length] at hkm
      have hP : ∀ z, i64R z → (Maps.has K (zk z) = true ↔ ∃ c, c ∈ G ∧ c.id = z) := fun z hz => (hkm z hz).trans (by
        rw [← HL.out]
        constructor
        · rintro ⟨c, h1, h2⟩
          exact ⟨chSem c, List.mem_map_of_mem h1, h2⟩
        · rintro ⟨c, h1, h2⟩
          obtain ⟨c', h3, rfl⟩ := List.mem_map.1 h1
          exact ⟨c', h3, h2⟩)
      obtain ⟨hkl, hkn⟩ := keys_of HO.out hP
      obtain ⟨l, el⟩ : ∃ l, l = (intKeys K).mergeSort leI := ⟨_, rfl⟩
      rw [← el] at hkl hkn
      have hll : l.length ≤ 1000 := by omega
      have hlG : l.length ≤ G.length := by
        have := congrArg List.length HL.out
        rw [List.length_map] at this
        omega
      have HK2 := Lib.hid (And.intro hkl (And.intro el hlG))
      have HOs := Lib.hid HO.out
      have zm := HO.out.lt
      have hwr := HGr.out.size
      have HO5 := Lib.hid (ChRow.mk (L := []) (base := w.heap.size) (World.ownsRow_lit (base := w.heap.size) (e := 50) (size := 4) wr #[] 0 hwr (by decide) (by simp)) (fun c hc => by cases hc))
      have AK := Lib.hid (fun w' (h : w'.ownsMap Tryz.prog 3 heldE w.heap.size L.length K) => (callsIn_wide (n := 5)).1 (c_keysS w' h))
      have as0 := (callsIn_wide (n := 5)).1 (c_sortedS (wr.alloc (.cells #[] 50)) (HOs.out.alloc _) (by omega))
      rw [show (wr.alloc (.cells #[] 50)).heap.size = wr.heap.size + 1 from by simp] at as0
      have AS := Lib.hid as0
      clear as0
      clear hkl hkn el hkm hP hk HK HD hDm HX HO
      go_wp2_with fail
      go_at_call 65
      refine (AK.out _ (HOs.out.alloc _)).mono ?_
      rintro e w5 ⟨rfl, rfl⟩
      go_wp2_with fail
      go_at_call 64
      refine (AS.out).mono ?_
      rintro e w6 ⟨v6, ss, rfl, hS, hrow, g6⟩
      have e1 : ss.mergeSort (fun x y => decide (x ≤ y)) = l := (mergeSort_of_perm_i hS).trans HK2.out.2.1.symm
      rw [e1] at hrow
      have e2 : ss.length = l.length := by rw [hS.length_eq, HK2.out.2.1, List.length_mergeSort]
      rw [e2] at hrow
      obtain ⟨lad, lcap, Lb, rfl, hnil, -⟩ := own_ints hrow
      have HN := Lib.hid hnil
      have HR6 := Lib.hid hrow
      have HC6 := Lib.hid (ChRow.gr HO5.out g6)
      have HG6 := Lib.hid (Gr.trans HGr.out (Gr.trans ((Below.refl _ _).alloc (Nat.le_refl _) _) g6))
      have hll9 : (l.length : Int) ≤ 1000 := by omega
      clear hS hrow hnil g6 e1 e2 AK AS HOs HO5
      go_wp2_with fail
      go_loopg [6, 32] l.length (fun m a x wq => ∃ (i : Nat) (Lc : List MChg), x = .int .i64 i ∧ i ≤ l.length ∧ m = l.length - i ∧ Hid (ChRow wq w.heap.size a Lc ∧ Lc.map chSem = netL (σ b) (σ j) (l.take i)) ∧ Hid (wq.ownsRow (wr.heap.size + 1) 3 1 (.slice lad l.length lcap) l.length (l.map encZ)) ∧ Hid (Gr w wq))
      case atStart => exact ⟨0, [], rfl, Nat.zero_le _, by omega, Lib.hid ⟨HC6.out, rfl⟩, HR6, HG6⟩
      case round =>
        obtain ⟨i, Lc, rfl, hi, hk, HC, HR, HG⟩ := hrel
        by_cases hlt : i < l.length
        · have ti : decide ((i : Int) < (l.length : Int)) = true := decide_eq_true (by omega)
          have ti2 : decide (i < l.length) = true := decide_eq_true hlt
          have ti3 : (i : Int) < (l.length : Int) := by omega
          have ti5 : (i : Int) < (lcap : Int) := by
            obtain ⟨_, _, e, h1, -⟩ := own_any HR.out
            simp only [Value.slice.injEq] at e
            omega
          have hmm2 : l.length - (i + 1) < gk := by omega
          have hlc : Lc.length ≤ 2 * i := by
            have a := congrArg List.length HC.out.2
            rw [List.length_map] at a
            have c := netL_len (σ b) (σ j) (l.take i)
            rw [List.length_take] at c
            omega
          obtain rfl := HN.out (by omega)
          have q0 : wr.cell? ⟨Lb, i, none⟩ = some (.int .i64 (l.getD i 0)) := by
            rw [HR.out.cellAt i (by omega), List.getElem?_map, List.getElem?_eq_getElem hlt, List.getD_eq_getElem?_getD, List.getElem?_eq_getElem hlt]
            rfl
          have hz : l.getD i 0 ∈ l := by rw [List.getD_eq_getElem?_getD, List.getElem?_eq_getElem hlt]; exact List.getElem_mem hlt
          have hzi := ((HK2.out.1.2 _).1 hz).1
          have hnt := netL_take (s := σ b) (t := σ j) hlt
          generalize l.getD i 0 = z at q0 hz hzi hnt
          have HZ := Lib.hid (And.intro hzi hnt)
          have t0 := cell_gr HG.out HS.out.1
          have t1 := cell_gr HG.out HS.out.2
          have zS := World.block_lt_of_cell? _ _ t0
          have zL := World.block_lt_of_cell? _ _ q0
          have hwr := HG.out.size
          clear hz hnt
          rcases hsb : σ b z with _ | ⟨ok, on, oX, oY⟩
          all_goals rcases hsj : σ j z with _ | ⟨pk, pn, pX, pY⟩
          all_goals have HFq := Lib.hid (HF.out.to HG.out)
          all_goals have HEB := Lib.hid (And.intro hsb hsj)
          · have AG1 := Lib.hid (fun w' (g : Gr wr w') => md_getM HZ.out.1 HEB.out.1 w' ((HFq.out.to g).fam.md b HFq.out.hb))
            have AG2 := Lib.hid (fun w' (g : Gr wr w') => md_getM HZ.out.1 HEB.out.2 w' ((HFq.out.to g).fam.md j HFq.out.hj))
            clear hsb hsj
            go_wp2_with fail
            go_at_call 46
            refine (AG1.out _ (by go_grown)).mono ?_
            rintro e wa ⟨rfl, ga⟩
            have HA := Lib.hid ga
            have r0 := cell_gr ga t0
            have r1 := cell_gr ga t1
            have zS2 := World.block_lt_of_cell? _ _ r0
            have s1 := ga.size
            skip
            clear ga t0 t1 zS q0 zL
            go_wp2_with fail
            go_at_call 46
            refine (AG2.out _ (Gr.trans HA.out (by go_grown))).mono ?_
            rintro e wb ⟨rfl, gb⟩
            have b0 : wb.cell? ⟨wa.heap.size, 0, none⟩ = some (.int .i64 0) := cell_gr gb (by go_simp)
            have b1 : wb.cell? ⟨wa.heap.size, 1, none⟩ = some (.slice none 0 0) := cell_gr gb (by go_simp)
            have zb := World.block_lt_of_cell? _ _ b0
            have Gab : Gr wa wb := Gr.trans (by go_grown) gb
            have HB := Lib.hid (Gr.trans HA.out Gab)
            have s2 := Gab.size
            skip
            skip
            clear gb r0 r1 zS2 Gab
            have AM := Lib.hid (fun w' (g : Gr wb w') => md_oSame (k := 0) (j := 0) true w' (pts_any0 (fun _ => 0) (fun _ => 0)) (pts_any0 (fun _ => 0) (fun _ => 0)) (by omega) (iff_of_true rfl ⟨rfl, rfl, fun _ h => absurd h (Nat.not_lt_zero _)⟩))
            go_wp2_with fail
            go_at_call 66
            refine (AM.out _ (by go_grown)).mono ?_
            rintro e wc ⟨rfl, gc⟩
            have d0 : wc.cell? ⟨wb.heap.size, 0, none⟩ = some (.int .i64 0) := cell_gr gc (by go_simp)
            have d1 : wc.cell? ⟨wb.heap.size, 1, none⟩ = some (.slice none 0 0) := cell_gr gc (by go_simp)
            have zd := World.block_lt_of_cell? _ _ d0
            have Gc : Gr wb wc := Gr.trans (by go_grown) gc
            have HCc := Lib.hid (Gr.trans HB.out Gc)
            have HGbc := Lib.hid Gc
            have s3 := Gc.size
            clear gc b0 b1 zb Gc
            go_wp2_with fail
            go_roundg (l.length - (i + 1))
            case measure => omega
            case rel => exact ⟨i + 1, Lc, by go_num, by omega, rfl, Lib.hid ⟨ChRow.gr HC.out.1 HCc.out, by rw [HC.out.2, HZ.out.2, HEB.out.1, HEB.out.2, show netO z none none = [] from rfl]; exact (List.append_nil _).symm⟩, Lib.hid (rowOwn_gr HR.out HCc.out), Lib.hid (Gr.trans HG.out HCc.out)⟩
          · have AG1 := Lib.hid (fun w' (g : Gr wr w') => md_getM HZ.out.1 HEB.out.1 w' ((HFq.out.to g).fam.md b HFq.out.hb))
            have AG2 := Lib.hid (fun w' (g : Gr wr w') => md_getH HZ.out.1 HEB.out.2 w' ((HFq.out.to g).fam.md j HFq.out.hj))
            have pn2 : pn ≤ 1000 := by obtain ⟨_, _, _, _, -, -, -, -, h, -⟩ := mdAt_some (HFq.out.fam.md j HFq.out.hj) HZ.out.1 HEB.out.2; exact h
            clear hsb hsj
            go_wp2_with fail
            go_at_call 46
            refine (AG1.out _ (by go_grown)).mono ?_
            rintro e wa ⟨rfl, ga⟩
            have HA := Lib.hid ga
            have r0 := cell_gr ga t0
            have r1 := cell_gr ga t1
            have zS2 := World.block_lt_of_cell? _ _ r0
            have s1 := ga.size
            skip
            clear ga t0 t1 zS q0 zL
            go_wp2_with fail
            go_at_call 46
            refine (AG2.out _ (Gr.trans HA.out (by go_grown))).mono ?_
            rintro e wb ⟨B2, c2, rfl, ⟨hp2, hf2⟩, hB2, gb⟩
            have b0 : wb.cell? ⟨wa.heap.size, 0, none⟩ = some (.int .i64 0) := cell_gr gb (by go_simp)
            have b1 : wb.cell? ⟨wa.heap.size, 1, none⟩ = some (.slice none 0 0) := cell_gr gb (by go_simp)
            have zb := World.block_lt_of_cell? _ _ b0
            have Gab : Gr wa wb := Gr.trans (by go_grown) gb
            have HB := Lib.hid (Gr.trans HA.out Gab)
            have s2 := Gab.size
            have HP2 : Hid (PtsF wb w.heap.size (.slice (some ⟨B2, 0, none⟩) pn c2) pn pX pY) := Lib.hid ⟨hp2, fun _ => ⟨B2, c2, rfl, hf2, by simp at hB2; omega⟩⟩
            skip
            clear gb r0 r1 zS2 Gab hp2 hf2 hB2
            go_wp2_with fail
            go_at_call 60
            refine (st_put z pk _ pn c2 _).mono ?_
            rintro e we ⟨rfl, ge⟩
            have Ge : Gr wr we := Gr.trans HB.out (Gr.trans (by go_grown) ge)
            have HCe := Lib.hid (HC.out.1.gr Ge)
            have HPe := Lib.hid (ptsF_gr HP2.out (Gr.trans (by go_grown) ge))
            have HRe := Lib.hid (rowOwn_gr HR.out Ge)
            have HGt := Lib.hid (Gr.trans HG.out Ge)
            have se := HGt.out.size
            clear ge Ge b0 b1 zb
            go_wp2_with (at_builtin; go_loud ((refine wpList_append_own2 _ rfl (.tmp 69) (.tmp 73) 36 rfl w.heap.size 50 i0 (.agg #[.int .i64 0, .int .i64 0, .int .i64 0, .slice none 0 0]) 4 48 Tryz.underlying36 HI.out.1 HI.out.2.1 HI.out.2.2.1 HI.out.2.2.2 rfl (by decide) u6 Lc.length (chCs Lc) rfl (rowOwn_gr HCe.out.own ((Below.refl _ _).alloc (Nat.le_refl _) _)) ⟨we.heap.size, 0, none⟩ 1 1 [.int .i64 1, .int .i64 z, .int .i64 pk, .slice (some ⟨B2, 0, none⟩) pn c2] rfl rfl (cells_newT _ _ _ _ rfl) (by intro u hu; simp only [List.mem_cons, List.not_mem_nil, or_false] at hu; rcases hu with rfl | rfl | rfl | rfl <;> rfl) (by unfold maxLen; omega) (by omega) (by simp; omega) ?_); intro x8 w8 o8 g8; (have HO8 := Lib.hid (And.intro o8 g8)); clear o8 g8))
            have HC8 : Hid (ChRow w8 w.heap.size x8 (Lc ++ [⟨1, z, pk, .slice (some ⟨B2, 0, none⟩) pn c2, pn, pX, pY⟩])) := Lib.hid (ChRow.more (x := ⟨1, z, pk, .slice (some ⟨B2, 0, none⟩) pn c2, pn, pX, pY⟩) HCe.out ((Below.refl _ _).alloc (Nat.le_refl _) _) HO8.out.1 HO8.out.2 (ptsF_gr HPe.out ((Below.refl _ _).alloc (Nat.le_refl _) _)) HZ.out.1 pn2)
            have HR8 := Lib.hid (own_oth2 (rowOwn_gr HRe.out ((Below.refl _ _).alloc (Nat.le_refl _) _)) (rowOwn_gr HCe.out.own ((Below.refl _ _).alloc (Nat.le_refl _) _)) (by decide) HO8.out.2)
            have HG8 := Lib.hid (HO8.out.2.gr (Gr.trans HGt.out ((Below.refl _ _).alloc (Nat.le_refl _) _)) (fun k hk => (World.ownsRow.lt HCe.out.own k hk).1))
            go_roundg (l.length - (i + 1))
            case measure => omega
            case rel => exact ⟨i + 1, (Lc ++ [⟨1, z, pk, .slice (some ⟨B2, 0, none⟩) pn c2, pn, pX, pY⟩]), by go_num, by omega, rfl, Lib.hid ⟨HC8.out, by rw [List.map_append, HC.out.2, HZ.out.2, HEB.out.1, HEB.out.2]; rfl⟩, HR8, HG8⟩
          · have AG1 := Lib.hid (fun w' (g : Gr wr w') => md_getH HZ.out.1 HEB.out.1 w' ((HFq.out.to g).fam.md b HFq.out.hb))
            have AG2 := Lib.hid (fun w' (g : Gr wr w') => md_getM HZ.out.1 HEB.out.2 w' ((HFq.out.to g).fam.md j HFq.out.hj))
            have on2 : on ≤ 1000 := by obtain ⟨_, _, _, _, -, -, -, -, h, -⟩ := mdAt_some (HFq.out.fam.md b HFq.out.hb) HZ.out.1 HEB.out.1; exact h
            clear hsb hsj
            go_wp2_with fail
            go_at_call 46
            refine (AG1.out _ (by go_grown)).mono ?_
            rintro e wa ⟨B1, c1, rfl, ⟨hp1, hf1⟩, hB1, ga⟩
            have HA := Lib.hid ga
            have r0 := cell_gr ga t0
            have r1 := cell_gr ga t1
            have zS2 := World.block_lt_of_cell? _ _ r0
            have s1 := ga.size
            have HP1 := Lib.hid hp1
            clear ga t0 t1 zS q0 zL hp1 hf1
            go_wp2_with fail
            go_at_call 46
            refine (AG2.out _ (Gr.trans HA.out (by go_grown))).mono ?_
            rintro e wb ⟨rfl, gb⟩
            have b0 : wb.cell? ⟨wa.heap.size, 0, none⟩ = some (.int .i64 ok) := cell_gr gb (by go_simp)
            have b1 : wb.cell? ⟨wa.heap.size, 1, none⟩ = some (.slice (some ⟨B1, 0, none⟩) on c1) := cell_gr gb (by go_simp)
            have zb := World.block_lt_of_cell? _ _ b0
            have Gab : Gr wa wb := Gr.trans (by go_grown) gb
            have HB := Lib.hid (Gr.trans HA.out Gab)
            have s2 := Gab.size
            skip
            have HP1b := Lib.hid (pts_gr HP1.out Gab)
            clear gb r0 r1 zS2 Gab hB1
            go_wp2_with fail
            go_at_call 63
            refine (st_del z _).mono ?_
            rintro e wd ⟨rfl, gd⟩
            have Gd : Gr wr wd := Gr.trans HB.out (Gr.trans (by go_grown) gd)
            have HGd := Lib.hid Gd
            have sd := Gd.size
            have HCd := Lib.hid (HC.out.1.gr Gd)
            clear gd Gd b0 b1 zb
            go_wp2_with (at_builtin; go_loud ((refine wpList_append_own2 _ rfl (.tmp 63) (.tmp 66) 36 rfl w.heap.size 50 i0 (.agg #[.int .i64 0, .int .i64 0, .int .i64 0, .slice none 0 0]) 4 48 Tryz.underlying36 HI.out.1 HI.out.2.1 HI.out.2.2.1 HI.out.2.2.2 rfl (by decide) u6 Lc.length (chCs Lc) rfl (rowOwn_gr HCd.out.own ((Below.refl _ _).alloc (Nat.le_refl _) _)) ⟨wd.heap.size, 0, none⟩ 1 1 [.int .i64 2, .int .i64 z, .int .i64 0, .slice none 0 0] rfl rfl (cells_newT _ _ _ _ rfl) (by intro u hu; simp only [List.mem_cons, List.not_mem_nil, or_false] at hu; rcases hu with rfl | rfl | rfl | rfl <;> rfl) (by unfold maxLen; omega) (by omega) (by simp; omega) ?_); intro x7 w7 o7 g7; (have HO7 := Lib.hid (And.intro o7 g7)); clear o7 g7))
            have HC7 : Hid (ChRow w7 w.heap.size x7 (Lc ++ [⟨2, z, 0, .slice none 0 0, 0, fun _ => 0, fun _ => 0⟩])) := Lib.hid (ChRow.more (x := ⟨2, z, 0, .slice none 0 0, 0, fun _ => 0, fun _ => 0⟩) HCd.out ((Below.refl _ _).alloc (Nat.le_refl _) _) HO7.out.1 HO7.out.2 ⟨pts_any0 _ _, fun h => absurd h (Nat.lt_irrefl _)⟩ HZ.out.1 (Nat.zero_le _))
            have HR7 := Lib.hid (own_oth2 (rowOwn_gr HR.out (Gr.trans HGd.out ((Below.refl _ _).alloc (Nat.le_refl _) _))) (rowOwn_gr HCd.out.own ((Below.refl _ _).alloc (Nat.le_refl _) _)) (by decide) HO7.out.2)
            have HG7 := Lib.hid (HO7.out.2.gr (Gr.trans (Gr.trans HG.out HGd.out) ((Below.refl _ _).alloc (Nat.le_refl _) _)) (fun k hk => (World.ownsRow.lt HCd.out.own k hk).1))
            go_wp2_with fail
            go_roundg (l.length - (i + 1))
            case measure => omega
            case rel => exact ⟨i + 1, (Lc ++ [⟨2, z, 0, .slice none 0 0, 0, fun _ => 0, fun _ => 0⟩]), by go_num, by omega, rfl, Lib.hid ⟨HC7.out, by rw [List.map_append, HC.out.2, HZ.out.2, HEB.out.1, HEB.out.2]; rfl⟩, HR7, HG7⟩
          · have AG1 := Lib.hid (fun w' (g : Gr wr w') => md_getH HZ.out.1 HEB.out.1 w' ((HFq.out.to g).fam.md b HFq.out.hb))
            have AG2 := Lib.hid (fun w' (g : Gr wr w') => md_getH HZ.out.1 HEB.out.2 w' ((HFq.out.to g).fam.md j HFq.out.hj))
            have on2 : on ≤ 1000 := by obtain ⟨_, _, _, _, -, -, -, -, h, -⟩ := mdAt_some (HFq.out.fam.md b HFq.out.hb) HZ.out.1 HEB.out.1; exact h
            have pn2 : pn ≤ 1000 := by obtain ⟨_, _, _, _, -, -, -, -, h, -⟩ := mdAt_some (HFq.out.fam.md j HFq.out.hj) HZ.out.1 HEB.out.2; exact h
            clear hsb hsj
            go_wp2_with fail
            go_at_call 46
            refine (AG1.out _ (by go_grown)).mono ?_
            rintro e wa ⟨B1, c1, rfl, ⟨hp1, hf1⟩, hB1, ga⟩
            have HA := Lib.hid ga
            have r0 := cell_gr ga t0
            have r1 := cell_gr ga t1
            have zS2 := World.block_lt_of_cell? _ _ r0
            have s1 := ga.size
            have HP1 := Lib.hid hp1
            clear ga t0 t1 zS q0 zL hp1 hf1
            go_wp2_with fail
            go_at_call 46
            refine (AG2.out _ (Gr.trans HA.out (by go_grown))).mono ?_
            rintro e wb ⟨B2, c2, rfl, ⟨hp2, hf2⟩, hB2, gb⟩
            have b0 : wb.cell? ⟨wa.heap.size, 0, none⟩ = some (.int .i64 ok) := cell_gr gb (by go_simp)
            have b1 : wb.cell? ⟨wa.heap.size, 1, none⟩ = some (.slice (some ⟨B1, 0, none⟩) on c1) := cell_gr gb (by go_simp)
            have zb := World.block_lt_of_cell? _ _ b0
            have Gab : Gr wa wb := Gr.trans (by go_grown) gb
            have HB := Lib.hid (Gr.trans HA.out Gab)
            have s2 := Gab.size
            have HP2 : Hid (PtsF wb w.heap.size (.slice (some ⟨B2, 0, none⟩) pn c2) pn pX pY) := Lib.hid ⟨hp2, fun _ => ⟨B2, c2, rfl, hf2, by simp at hB2; omega⟩⟩
            have HP1b := Lib.hid (pts_gr HP1.out Gab)
            clear gb r0 r1 zS2 Gab hp2 hf2 hB2 hB1
            rcases hsm : sameM ⟨ok, on, oX, oY⟩ ⟨pk, pn, pX, pY⟩ with _ | _
            · have HSM := Lib.hid hsm
              clear hsm
              have AM := Lib.hid (fun w' (g : Gr wb w') => md_oSame (k := ok) (j := pk) false w' (pts_gr HP1b.out g) (pts_gr HP2.out.1 g) (by omega) (iff_of_false (by decide) (fun h => by have h2 := HSM.out; rw [sameM_iff.2 h] at h2; cases h2)))
              go_wp2_with fail
              go_at_call 66
              refine (AM.out _ (by go_grown)).mono ?_
              rintro e wc ⟨rfl, gc⟩
              have d0 : wc.cell? ⟨wb.heap.size, 0, none⟩ = some (.int .i64 pk) := cell_gr gc (by go_simp)
              have d1 : wc.cell? ⟨wb.heap.size, 1, none⟩ = some (.slice (some ⟨B2, 0, none⟩) pn c2) := cell_gr gc (by go_simp)
              have zd := World.block_lt_of_cell? _ _ d0
              have Gc : Gr wb wc := Gr.trans (by go_grown) gc
              have HCc := Lib.hid (Gr.trans HB.out Gc)
              have HGbc := Lib.hid Gc
              have s3 := Gc.size
              clear gc b0 b1 zb Gc
              go_wp2_with fail
              go_at_call 63
              refine (st_del z _).mono ?_
              rintro e wd ⟨rfl, gd⟩
              have Gd : Gr wr wd := Gr.trans HCc.out gd
              have HGd := Lib.hid Gd
              have sd := Gd.size
              have e0 := cell_gr gd d0
              have e1 := cell_gr gd d1
              have ze := World.block_lt_of_cell? _ _ e0
              have HP2d := Lib.hid (ptsF_gr HP2.out (Gr.trans HGbc.out gd))
              have HCd := Lib.hid (HC.out.1.gr Gd)
              have HBd : Hid (∀ k, u6.ownBlock = some k → k ≠ wb.heap.size) := Lib.hid (fun k hk => by have := (World.ownsRow.lt HC.out.1.own k hk).2; have := HB.out.size; omega)
              clear gd Gd d0 d1 zd
              go_wp2_with (at_builtin; go_loud ((refine wpList_append_own2 _ rfl (.tmp 63) (.tmp 66) 36 rfl w.heap.size 50 i0 (.agg #[.int .i64 0, .int .i64 0, .int .i64 0, .slice none 0 0]) 4 48 Tryz.underlying36 HI.out.1 HI.out.2.1 HI.out.2.2.1 HI.out.2.2.2 rfl (by decide) u6 Lc.length (chCs Lc) rfl (rowOwn_gr HCd.out.own ((Below.refl _ _).alloc (Nat.le_refl _) _)) ⟨wd.heap.size, 0, none⟩ 1 1 [.int .i64 2, .int .i64 z, .int .i64 0, .slice none 0 0] rfl rfl (cells_newT _ _ _ _ rfl) (by intro u hu; simp only [List.mem_cons, List.not_mem_nil, or_false] at hu; rcases hu with rfl | rfl | rfl | rfl <;> rfl) (by unfold maxLen; omega) (by omega) (by simp; omega) ?_); intro x7 w7 o7 g7; (have HO7 := Lib.hid (And.intro o7 g7)); (have KB7 : Kx (fun k => u6.ownBlock = some k) wd w7 := (Kx.of_gr ((Below.refl _ _).alloc (Nat.le_refl _) _)).trans (kx_grown g7)); (have m0 := cell_kx (p := ⟨wb.heap.size, 0, none⟩) KB7 (fun e => HBd.out _ e rfl) e0); (have m1 := cell_kx (p := ⟨wb.heap.size, 1, none⟩) KB7 (fun e => HBd.out _ e rfl) e1); (have zm7 := World.block_lt_of_cell? _ _ m0); (have HKB := Lib.hid KB7); clear KB7 e0 e1 ze; clear o7 g7))
              have HC7 : Hid (ChRow w7 w.heap.size x7 (Lc ++ [⟨2, z, 0, .slice none 0 0, 0, fun _ => 0, fun _ => 0⟩])) := Lib.hid (ChRow.more (x := ⟨2, z, 0, .slice none 0 0, 0, fun _ => 0, fun _ => 0⟩) HCd.out ((Below.refl _ _).alloc (Nat.le_refl _) _) HO7.out.1 HO7.out.2 ⟨pts_any0 _ _, fun h => absurd h (Nat.lt_irrefl _)⟩ HZ.out.1 (Nat.zero_le _))
              have HR7 := Lib.hid (own_oth2 (rowOwn_gr HR.out (Gr.trans HGd.out ((Below.refl _ _).alloc (Nat.le_refl _) _))) (rowOwn_gr HCd.out.own ((Below.refl _ _).alloc (Nat.le_refl _) _)) (by decide) HO7.out.2)
              have HG7 := Lib.hid (HO7.out.2.gr (Gr.trans (Gr.trans HG.out HGd.out) ((Below.refl _ _).alloc (Nat.le_refl _) _)) (fun k hk => (World.ownsRow.lt HCd.out.own k hk).1))
              have HP27 := Lib.hid (ptsF_ty HP2d.out HKB.out (fun B hf e => by
                obtain ⟨-, cur, hc⟩ := own_tyC HCd.out.own e
                exact fr2_no hf (noTy_of hc (by decide)) rfl))
              have s7 := HG7.out.size
              go_wp2_with fail
              go_at_call 60
              refine (st_put z pk _ pn c2 _).mono ?_
              rintro e we ⟨rfl, ge⟩
              have HGe := Lib.hid ge
              have HCe := Lib.hid (HC7.out.gr ge)
              have HPe := Lib.hid (ptsF_gr HP27.out ge)
              have HRe := Lib.hid (rowOwn_gr HR7.out ge)
              have HGt := Lib.hid (Gr.trans HG7.out ge)
              have se := HGt.out.size
              have hl8 : (Lc ++ [⟨2, z, 0, .slice none 0 0, 0, fun _ => 0, fun _ => 0⟩] : List MChg).length = Lc.length + 1 := by simp
              obtain ⟨L8, eL8⟩ : ∃ L8 : List MChg, L8 = Lc ++ [⟨2, z, 0, .slice none 0 0, 0, fun _ => 0, fun _ => 0⟩] := ⟨_, rfl⟩
              rw [← eL8] at HCe hl8
              have HE8 := Lib.hid eL8
              clear ge m0 m1 zm7 eL8
              go_wp2_with (at_builtin; go_loud ((refine wpList_append_own2 _ rfl (.tmp 69) (.tmp 73) 36 rfl w.heap.size 50 i0 (.agg #[.int .i64 0, .int .i64 0, .int .i64 0, .slice none 0 0]) 4 48 Tryz.underlying36 HI.out.1 HI.out.2.1 HI.out.2.2.1 HI.out.2.2.2 rfl (by decide) x7 L8.length (chCs L8) rfl (rowOwn_gr HCe.out.own ((Below.refl _ _).alloc (Nat.le_refl _) _)) ⟨we.heap.size, 0, none⟩ 1 1 [.int .i64 1, .int .i64 z, .int .i64 pk, .slice (some ⟨B2, 0, none⟩) pn c2] rfl rfl (cells_newT _ _ _ _ rfl) (by intro u hu; simp only [List.mem_cons, List.not_mem_nil, or_false] at hu; rcases hu with rfl | rfl | rfl | rfl <;> rfl) (by unfold maxLen; omega) (by omega) (by simp; omega) ?_); intro x8 w8 o8 g8; (have HO8 := Lib.hid (And.intro o8 g8)); clear o8 g8))
              have HC8 : Hid (ChRow w8 w.heap.size x8 (L8 ++ [⟨1, z, pk, .slice (some ⟨B2, 0, none⟩) pn c2, pn, pX, pY⟩])) := Lib.hid (ChRow.more (x := ⟨1, z, pk, .slice (some ⟨B2, 0, none⟩) pn c2, pn, pX, pY⟩) HCe.out ((Below.refl _ _).alloc (Nat.le_refl _) _) HO8.out.1 HO8.out.2 (ptsF_gr HPe.out ((Below.refl _ _).alloc (Nat.le_refl _) _)) HZ.out.1 pn2)
              have HR8 := Lib.hid (own_oth2 (rowOwn_gr HRe.out ((Below.refl _ _).alloc (Nat.le_refl _) _)) (rowOwn_gr HCe.out.own ((Below.refl _ _).alloc (Nat.le_refl _) _)) (by decide) HO8.out.2)
              have HG8 := Lib.hid (HO8.out.2.gr (Gr.trans HGt.out ((Below.refl _ _).alloc (Nat.le_refl _) _)) (fun k hk => (World.ownsRow.lt HCe.out.own k hk).1))
              go_roundg (l.length - (i + 1))
              case measure => omega
              case rel => exact ⟨i + 1, (L8 ++ [⟨1, z, pk, .slice (some ⟨B2, 0, none⟩) pn c2, pn, pX, pY⟩]), by go_num, by omega, rfl, Lib.hid ⟨HC8.out, by rw [HE8.out, List.map_append, List.map_append, HC.out.2, HZ.out.2, HEB.out.1, HEB.out.2, show netO z (some ⟨ok, on, oX, oY⟩) (some ⟨pk, pn, pX, pY⟩) = [delC z, putC z ⟨pk, pn, pX, pY⟩] from if_neg (by rw [HSM.out]; decide), List.append_assoc]; rfl⟩, HR8, HG8⟩
            · have HSM := Lib.hid hsm
              clear hsm
              have AM := Lib.hid (fun w' (g : Gr wb w') => md_oSame (k := ok) (j := pk) true w' (pts_gr HP1b.out g) (pts_gr HP2.out.1 g) (by omega) (iff_of_true rfl (sameM_iff.1 HSM.out)))
              go_wp2_with fail
              go_at_call 66
              refine (AM.out _ (by go_grown)).mono ?_
              rintro e wc ⟨rfl, gc⟩
              have d0 : wc.cell? ⟨wb.heap.size, 0, none⟩ = some (.int .i64 pk) := cell_gr gc (by go_simp)
              have d1 : wc.cell? ⟨wb.heap.size, 1, none⟩ = some (.slice (some ⟨B2, 0, none⟩) pn c2) := cell_gr gc (by go_simp)
              have zd := World.block_lt_of_cell? _ _ d0
              have Gc : Gr wb wc := Gr.trans (by go_grown) gc
              have HCc := Lib.hid (Gr.trans HB.out Gc)
              have HGbc := Lib.hid Gc
              have s3 := Gc.size
              clear gc b0 b1 zb Gc
              go_wp2_with fail
              go_roundg (l.length - (i + 1))
              case measure => omega
              case rel => exact ⟨i + 1, Lc, by go_num, by omega, rfl, Lib.hid ⟨ChRow.gr HC.out.1 HCc.out, by rw [HC.out.2, HZ.out.2, HEB.out.1, HEB.out.2, show netO z (some ⟨ok, on, oX, oY⟩) (some ⟨pk, pn, pX, pY⟩) = [] from if_pos HSM.out]; exact (List.append_nil _).symm⟩, Lib.hid (rowOwn_gr HR.out HCc.out), Lib.hid (Gr.trans HG.out HCc.out)⟩
        · obtain rfl : i = l.length := by omega
          have ti : decide ((l.length : Int) < (l.length : Int)) = false := decide_eq_false (by omega)
          have ti2 : decide (l.length < l.length) = false := decide_eq_false (by omega)
          clear hk
          go_wp2_with fail
          go_ret
          exact ⟨l, HK2.out.1, HK2.out.2.2, _, Lc, rfl, HC.out.1, by rw [HC.out.2, List.take_length], HG.out⟩
end
end Go.Proofs.YtpomllpplpalkaaGreatDoor
/- stage's law: awake -/
namespace Go.Proofs.YtpomllpplpalkaaGreatDoor
set_option linter.unusedVariables false
set_option linter.unusedSimpArgs false
open Go.ChangeShapes Go.WideShapes Go.ChangeAt Go.RowKit Go.Maps

theorem werr_0 {op : ByteArray} {w : World} {u : Value} {id : Int} (h : WErr op w u id 0) : u = .nilIface := by
  rcases h with ⟨h, -⟩ | ⟨B, x, d, -, h, -⟩
  · exact h
  · omega
theorem kIds_one {G : List CS} {l : List Int} {z : Int} (hz : i64R z) (hG : ∀ c, c ∈ G → c.id = z) (hne : G ≠ []) (h : KIds (fun z => ∃ c, c ∈ G ∧ c.id = z) l) : l = [z] := by
  refine kIds_uniq h ⟨List.pairwise_singleton _ _, fun y => ?_⟩
  constructor
  · intro hy
    obtain rfl := List.mem_singleton.1 hy
    obtain ⟨c, L, rfl⟩ := List.exists_cons_of_ne_nil hne
    exact ⟨hz, c, List.mem_cons_self, hG c List.mem_cons_self⟩
  · rintro ⟨-, c, hc, rfl⟩
    rw [hG c hc]
    exact List.mem_singleton.2 rfl
section
variable {W w : World} {N k : Nat} {Q : Nat → Nat} {M : Nat → Option Nat} {σ : Nat → Int → Option MO} {S b j : Nat} {op : Bool} {G : List CS}
theorem doTo_ok {c : CS} {e : Ending} {w' : World} (h : DoTo W N k Q σ S b j op G c e w') (hc : doC op G (σ j) c = 0) : ∃ M', e = .returned .nilIface ∧ StF W w' (N + 1) k Q M' (fun a => if a = j then apS (σ j) c.kd c.id c.o.k c.o.n c.o.X c.o.Y else σ a) S b j op (G ++ [c]) := by
  obtain ⟨u, M', rfl, hu, F⟩ := h
  rw [hc] at hu
  obtain rfl := werr_0 hu
  rw [show doS op G (σ j) c = apS (σ j) c.kd c.id c.o.k c.o.n c.o.X c.o.Y from if_pos hc, show doG op G (σ j) c = G ++ [c] from if_pos hc] at F
  exact ⟨M', rfl, F⟩
theorem chgsTo_len {w : World} {G : List CS} {e : Ending} {w' : World} (h : ChgsTo w G e w') : ∃ ad cap, e = .returned (.slice ad G.length cap) ∧ Gr w w' := by
  obtain ⟨v, L, rfl, hr, hL, g⟩ := h
  obtain ⟨ad, cap, rfl, -, -⟩ := own_any hr.own
  rw [← hL, List.length_map]
  exact ⟨ad, cap, rfl, g⟩
end
def tr3 {α : Type} (a b c : α) (j : Nat) : α := if j = 0 then a else if j = 1 then b else c
def oneO : MO := ⟨1, 1, fun _ => 1, fun _ => 1⟩
def oneS : Int → Option MO := updS (fun _ => none) 1 (some oneO)
theorem one_ap : apN (fun _ => none) 1 1 1 1 (fun _ => 1) (fun _ => 1) = 0 := by decide
theorem one_de : apN oneS 2 1 0 0 (fun _ => 0) (fun _ => 0) = 0 := by decide
theorem one_s : apS (fun _ => none) 1 1 1 1 (fun _ => 1) (fun _ => 1) = oneS := by
  unfold apS
  rw [one_ap]
  rfl
def zerS : Int → Option MO := updS oneS 1 none
theorem one_t : apS oneS 2 1 0 0 (fun _ => 0) (fun _ => 0) = zerS := by
  unfold apS
  rw [one_de]
  rfl
theorem one_i : i64R 1 := by unfold i64R; decide
set_option maxHeartbeats 4000000 in
set_option maxRecDepth 100000 in
theorem p24_awake (W : World) (hE : ErrT W) : Calls Tryz.prog 10 #[] W fun e w' => e = .returned (.bool true) ∧ Gr W w' := by
  have HE := Lib.hid hE
  clear hE
  go_enter Tryz.func10, Tryz.ntmps10
  go_wp2_with fail
  go_at_call 11
  refine (st_New0 (W := W) (w := W) (Below.refl _ _)).mono ?_
  rintro e w1 ⟨S, Q, M1, rfl, F1⟩
  have HF1 := Lib.hid F1
  clear F1
  go_wp2_with fail
  go_at_call 16
  refine (md_shape0 _).mono ?_
  rintro e w2 ⟨B, rfl, p0, p1, hB, g2⟩
  have HP := Lib.hid (pts_one p0 p1)
  have HF2 := Lib.hid (HF1.out.to g2)
  clear p0 p1 hB g2
  have AP := Lib.hid (st_Put (kk := 1) one_i (by omega) (by decide) (by decide) HF2.out HP.out)
  go_wp2_with fail
  go_at_call 15
  refine (AP.out).mono ?_
  intro e w3 h3
  obtain ⟨M3, rfl, F3⟩ := doTo_ok h3 (show doC true [] (fun _ => none) ⟨1, 1, ⟨1, 1, fun _ => 1, fun _ => 1⟩⟩ = 0 from one_ap)
  have HF3 : Hid (StF W w3 1 3 Q M3 (tr3 (fun _ => none) (fun _ => none) oneS) S 1 2 true [putC 1 oneO]) := Lib.hid (F3.as (fun i hi => by
    rcases (by omega : i = 0 ∨ i = 1 ∨ i = 2) with rfl | rfl | rfl
    · rfl
    · rfl
    · exact one_s))
  have AN := Lib.hid (st_Net HF3.out (by decide))
  have AD := Lib.hid (fun w' (g : Gr w3 w') => st_Del one_i (by omega) (by decide) (HF3.out.to g))
  clear F3 h3 AP
  go_wp2_with fail
  go_at_call 22
  refine (AN.out).mono ?_
  rintro e w4 ⟨l, hl, -, h4⟩
  obtain ⟨ad4, cp4, rfl, g4⟩ := chgsTo_len h4
  obtain rfl := kIds_one one_i (by simp [putC]) (by simp) hl
  have e4 : (netL (tr3 (fun _ => none) (fun _ => none) oneS 1) (tr3 (fun _ => none) (fun _ => none) oneS 2) [1]).length = 1 := by decide
  rw [e4]
  have HG4 := Lib.hid g4
  clear h4 hl g4 e4
  go_wp2_with fail
  go_at_call 21
  refine (AD.out _ HG4.out).mono ?_
  intro e w5 h5
  obtain ⟨M5, rfl, F5⟩ := doTo_ok h5 (show doC true [putC 1 oneO] oneS (delC 1) = 0 from one_de)
  have HF5 : Hid (StF W w5 2 3 Q M5 (tr3 (fun _ => none) (fun _ => none) zerS) S 1 2 true [putC 1 oneO, delC 1]) := Lib.hid (F5.as (fun i hi => by
    rcases (by omega : i = 0 ∨ i = 1 ∨ i = 2) with rfl | rfl | rfl
    · rfl
    · rfl
    · exact one_t))
  have AN2 := Lib.hid (st_Net HF5.out (by decide))
  have AC := Lib.hid (fun w' (g : Gr w5 w') => st_Changes (HF5.out.to g) (by decide))
  have AE := Lib.hid (fun w' (g : Gr w5 w') => st_End (HF5.out.to g))
  clear F5 h5 AD
  go_wp2_with fail
  go_at_call 22
  refine (AN2.out).mono ?_
  rintro e w6 ⟨l, hl, -, h6⟩
  obtain ⟨ad6, cp6, rfl, g6⟩ := chgsTo_len h6
  obtain rfl := kIds_one one_i (by simp [putC, delC]) (by simp) hl
  have e6 : (netL (tr3 (fun _ => none) (fun _ => none) zerS 1) (tr3 (fun _ => none) (fun _ => none) zerS 2) [1]).length = 0 := by decide
  rw [e6]
  have HG6 := Lib.hid g6
  clear h6 hl g6 e6
  go_wp2_with fail
  go_at_call 17
  refine (AC.out _ HG6.out).mono ?_
  intro e w7 h7
  obtain ⟨ad7, cp7, rfl, g7⟩ := chgsTo_len h7
  rw [show ([putC 1 oneO, delC 1] : List CS).length = 2 from rfl]
  have HG7 := Lib.hid (Gr.trans HG6.out g7)
  clear h7 g7
  go_wp2_with fail
  go_at_call 13
  refine (AE.out _ HG7.out).mono ?_
  rintro e w8 ⟨u8, rfl, hu8, F8⟩
  obtain rfl := werr_0 hu8
  have AE2 := Lib.hid (st_End F8)
  clear F8 hu8
  go_wp2_with fail
  go_at_call 13
  refine (AE2.out).mono ?_
  rintro e w9 ⟨u9, rfl, hu9, F9⟩
  have AI := Lib.hid (c_AlIs_werr w9 (errT_gr HE.out F9.fam.gr) (show WErr stageS w9 u9 0 11 from hu9))
  have HG9 := Lib.hid F9.fam.gr
  clear F9 hu9
  go_wp2_with fail
  go_at_call 14
  refine (AI.out).mono ?_
  rintro e w10 ⟨rfl, g10⟩
  go_wp2_with fail
  go_ret
  exact ⟨rfl, Gr.trans HG9.out g10⟩
end Go.Proofs.YtpomllpplpalkaaGreatDoor
