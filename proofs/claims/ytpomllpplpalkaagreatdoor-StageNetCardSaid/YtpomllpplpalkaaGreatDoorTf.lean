/- stage: Changes -/
import Derived.Test.YtpomllpplpalkaaGreatDoorTe
namespace Go.Proofs.YtpomllpplpalkaaGreatDoor
set_option linter.unusedVariables false
set_option linter.unusedSimpArgs false
open Go.ChangeShapes Go.WideShapes Go.ChangeAt Go.RowKit Go.Maps

theorem chRow_at {w : World} {base n cap : Nat} {ad : Option Addr} {L : List MChg} (h : ChRow w base (.slice ad n cap) L) : ∃ D, ∀ i, i < L.length → ad = some ⟨D, 0, none⟩ ∧ w.cell? ⟨D, i * 4, none⟩ = some (.int .i64 (L.getD i MChg.nul).kd) ∧ w.cell? ⟨D, i * 4 + 1, none⟩ = some (.int .i64 (L.getD i MChg.nul).id) ∧ w.cell? ⟨D, i * 4 + 2, none⟩ = some (.int .i64 (L.getD i MChg.nul).k) ∧ w.cell? ⟨D, i * 4 + 3, none⟩ = some (L.getD i MChg.nul).v ∧ PtsF w base (L.getD i MChg.nul).v (L.getD i MChg.nul).n (L.getD i MChg.nul).X (L.getD i MChg.nul).Y ∧ i64R (L.getD i MChg.nul).id ∧ (L.getD i MChg.nul).n ≤ 1000 := by
  rcases h.own.2 with ⟨e, e2⟩ | ⟨g, cp, cur, e, hb, hg, hn', hc, hs, ht⟩
  · have hl := chCs_len L
    exact ⟨0, fun i hi => absurd hi (by first | omega | (have : L.length = 0 := e2; omega) | (rw [e2] at hl; simp at hl; rw [hl] at hi; simp at hi))⟩
  · simp only [Value.slice.injEq] at e
    obtain ⟨rfl, rfl, rfl⟩ := e
    refine ⟨g, fun i hi => ?_⟩
    obtain ⟨a0, a1, a2, a3⟩ := chCs_get L i hi
    have hm : L.getD i MChg.nul ∈ L := by rw [List.getD_eq_getElem?_getD, List.getElem?_eq_getElem hi]; exact List.getElem_mem hi
    have hp := h.pts _ hm
    refine ⟨rfl, ?_, ?_, ?_, ?_, hp.1, hp.2.1, hp.2.2⟩
    · rw [h.own.cellAt _ (by omega)]; exact a0
    · rw [h.own.cellAt _ (by omega)]; exact a1
    · rw [h.own.cellAt _ (by omega)]; exact a2
    · rw [h.own.cellAt _ (by omega)]; exact a3
theorem ptsF_set {a : World} {base n : Nat} {v x : Value} {X Y : Nat → Int} {p : Addr} (h : PtsF a base v n X Y) (hp : p.block < base) : PtsF (a.setCell p x) base v n X Y := by
  obtain ⟨hp', hb⟩ := h
  rcases Nat.eq_zero_or_pos n with e | hn
  · subst e
    obtain ⟨ad, cap, B, off, e, h1, h2, h3, h4⟩ := hp'
    exact ⟨⟨ad, cap, B, off, e, h1, h2, h3, fun q hq => absurd hq (Nat.not_lt_zero _)⟩, fun h => absurd h (Nat.lt_irrefl _)⟩
  · obtain ⟨B, c, rfl, hf, hB⟩ := hb hn
    have K : Kx (fun i => i = p.block) a (a.setCell p x) := (Kx.refl (S := fun i => i = p.block) a).setCell (p := p) rfl _
    exact ⟨pts_kxW hn hp' K (by show ¬ B = p.block; omega), fun _ => ⟨B, c, rfl, fr2_kx hf K (by show ¬ B = p.block; omega), hB⟩⟩
theorem take_sem {L : List MChg} {i : Nat} (hi : i < L.length) : (L.take (i + 1)).map chSem = (L.take i).map chSem ++ [chSem (L.getD i MChg.nul)] := by
  rw [List.take_add_one, List.getElem?_eq_getElem hi, List.map_append, List.getD_eq_getElem?_getD, List.getElem?_eq_getElem hi]
  rfl
section
variable {W w : World} {N k : Nat} {Q : Nat → Nat} {M : Nat → Option Nat} {σ : Nat → Int → Option MO} {S b j : Nat} {op : Bool} {G : List CS}
def ChgsTo (w : World) (G : List CS) (e : Ending) (w' : World) : Prop := ∃ v L, e = .returned v ∧ ChRow w' w.heap.size v L ∧ L.map chSem = G ∧ Gr w w'
set_option maxHeartbeats 4000000 in
set_option maxRecDepth 100000 in
theorem st_Changes (F : StF W w N k Q M σ S b j op G) (hG : G.length ≤ 1000) : Calls Tryz.prog 17 #[.pointer (some ⟨S, 0, none⟩)] w fun e w' => ChgsTo w G e w' := by
  obtain ⟨i0, hi0, hz0, hz1, hz2⟩ := info_parts (P := Tryz.prog) (e := 50) (z := .agg #[.int .i64 0, .int .i64 0, .int .i64 0, .slice none 0 0]) (size := 4) (bytes := 48) (by kernel_rfl)
  have HI := Lib.hid (And.intro hi0 (And.intro hz0 (And.intro hz1 hz2)))
  clear hi0 hz0 hz1 hz2
  obtain ⟨cv, L, hh, hr, hL⟩ := F.row
  have hLG : L.length = G.length := by rw [← hL, List.length_map]
  have c2 : w.cell? ⟨S, 2, none⟩ = some cv := Hm.cell_of_heap hh 2
  have zS := World.block_lt_of_cell? _ _ c2
  obtain ⟨ad0, cp0, rfl, hcp, hcp2⟩ := own_any hr.own
  obtain ⟨D, hD⟩ := chRow_at hr
  have HD := Lib.hid hD
  have HL := Lib.hid hL
  have hLi : (L.length : Int) ≤ 1000 := by omega
  have HO0 := Lib.hid (ChRow.mk (L := []) (World.ownsRow_lit (base := w.heap.size) (e := 50) (size := 4) w #[] 0 (Nat.le_refl _) (by decide) (by simp)) (fun c hc => by cases hc))
  clear F hh hr hL hD
  go_enter Tryz.func17, Tryz.ntmps17
  go_wp2_with fail
  have HG0 : Hid (Gr w (w.alloc (.cells #[] 50))) := Lib.hid ((Below.refl _ _).alloc (Nat.le_refl _) _)
  go_loopg [3, 15] L.length (fun m a x wr => ∃ (i : Nat) (Lc : List MChg), x = .int .i64 i ∧ i ≤ L.length ∧ m = L.length - i ∧ Hid (ChRow wr w.heap.size a Lc ∧ Lc.map chSem = (L.take i).map chSem) ∧ Hid (Gr w wr))
  case atStart => exact ⟨0, [], rfl, Nat.zero_le _, by omega, Lib.hid ⟨HO0.out, rfl⟩, HG0⟩
  case round =>
    obtain ⟨i, Lc, rfl, hi, hk, HC, HG⟩ := hrel
    by_cases hlt : i < L.length
    · have ti : decide ((i : Int) < (L.length : Int)) = true := decide_eq_true (by omega)
      have ti2 : decide (i < L.length) = true := decide_eq_true hlt
      have ti3 : (i : Int) < (L.length : Int) := by omega
      have ti4 : (i : Int) < (cp0 : Int) := by omega
      have hmm : L.length - (i + 1) < gk := by omega
      have hlc : Lc.length = i := by
        have := congrArg List.length HC.out.2
        rw [List.length_map, List.length_map, List.length_take] at this
        omega
      have hs := take_sem hlt
      obtain ⟨rfl, q0, q1, q2, q3, q4, q5, q6⟩ := HD.out i hlt
      rcases ec : L.getD i MChg.nul with ⟨kd, id, kk, vv, m, X, Y⟩
      rw [ec] at q0 q1 q2 q3 q4 q5 q6 hs
      simp only at q0 q1 q2 q3 q4 q5 q6 hs
      have HS := Lib.hid (And.intro hs (And.intro q4 (And.intro q5 q6)))
      have p0 := cell_gr HG.out q0
      have p1 := cell_gr HG.out q1
      have p2 := cell_gr HG.out q2
      have p3 := cell_gr HG.out q3
      have zD := World.block_lt_of_cell? _ _ p0
      obtain ⟨pad, pcap, _, _, rfl, _⟩ := q4.1
      have AC := Lib.hid (fun w' (g : Gr wr w') => c_rCloneA (k := kk) (show m ≤ 1000000 by omega) w' (pts_gr q4.1 (Gr.trans HG.out g)))
      have hwr := HG.out.size
      clear q0 q1 q2 q3 q4 q5 hs ec
      go_wp2_with fail
      go_at_call 61
      refine (AC.out _ (by go_grown)).mono ?_
      rintro e w2 ⟨u, rfl, hp, g2⟩
      have b0 : w2.cell? ⟨wr.heap.size, 0, none⟩ = some (.int .i64 kd) := cell_gr g2 (by go_simp)
      have b1 : w2.cell? ⟨wr.heap.size, 1, none⟩ = some (.int .i64 id) := cell_gr g2 (by go_simp)
      have b2 : w2.cell? ⟨wr.heap.size, 2, none⟩ = some (.int .i64 kk) := cell_gr g2 (by go_simp)
      have b3 : w2.cell? ⟨wr.heap.size, 3, none⟩ = some (.slice pad m pcap) := cell_gr g2 (by go_simp)
      have f2 : w2.frozen? ⟨wr.heap.size, 2, none⟩ = false := frozen_gr (v := .int .i64 kk) g2 (by go_simp) (by go_simp)
      have f3 : w2.frozen? ⟨wr.heap.size, 3, none⟩ = false := frozen_gr (v := .slice pad m pcap) g2 (by go_simp) (by go_simp)
      have zb := World.block_lt_of_cell? _ _ b0
      have G2 : Gr wr w2 := Gr.trans (by go_grown) g2
      have hp2 : PtsF w2 (wr.heap.size + 1) u m X Y := ptsF_le hp (by simp)
      have Gb : Gr wr (((w2.setCell ⟨wr.heap.size, 2, none⟩ (.int .i64 kk)).setCell ⟨wr.heap.size, 3, none⟩ u).alloc (.cells #[.int .i64 kd, .int .i64 id, .int .i64 kk, u] 50)) := ((G2.setCell (p := ⟨wr.heap.size, 2, none⟩) (Nat.le_refl _) _).setCell (p := ⟨wr.heap.size, 3, none⟩) (Nat.le_refl _) _).alloc (by simpa using G2.size) _
      have Pb : PtsF (((w2.setCell ⟨wr.heap.size, 2, none⟩ (.int .i64 kk)).setCell ⟨wr.heap.size, 3, none⟩ u).alloc (.cells #[.int .i64 kd, .int .i64 id, .int .i64 kk, u] 50)) (wr.heap.size + 1) u m X Y := ptsF_gr (ptsF_set (ptsF_set hp2 (Nat.lt_succ_self _)) (Nat.lt_succ_self _)) ((Below.refl _ _).alloc (Nat.le_refl _) _)
      obtain ⟨uad, ucap, _, _, rfl, _⟩ := hp.1
      have HGb := Lib.hid (And.intro Gb Pb)
      have hs2 : w.heap.size ≤ w2.heap.size := Nat.le_trans hwr G2.size
      clear p0 p1 p2 p3 zD Gb Pb hp hp2 G2 g2
      go_wp2_with (at_builtin; go_loud ((refine wpList_append_own2 _ rfl (.tmp 25) (.tmp 27) 36 rfl w.heap.size 50 i0 (.agg #[.int .i64 0, .int .i64 0, .int .i64 0, .slice none 0 0]) 4 48 Tryz.underlying36 HI.out.1 HI.out.2.1 HI.out.2.2.1 HI.out.2.2.2 rfl (by decide) u3 Lc.length (chCs Lc) rfl (rowOwn_gr HC.out.1.own HGb.out.1) ⟨w2.heap.size, 0, none⟩ 1 1 [.int .i64 kd, .int .i64 id, .int .i64 kk, .slice uad m ucap] rfl rfl (by first | exact cells_newT _ _ _ _ rfl | (have h := cells_newT ((w2.setCell ⟨wr.heap.size, 2, none⟩ (.int .i64 kk)).setCell ⟨wr.heap.size, 3, none⟩ (.slice uad m ucap)) #[.int .i64 kd, .int .i64 id, .int .i64 kk, .slice uad m ucap] 50 _ rfl; simpa using h)) (by intro u hu; simp only [List.mem_cons, List.not_mem_nil, or_false] at hu; rcases hu with rfl | rfl | rfl | rfl <;> rfl) (by unfold maxLen; omega) (by omega) (by simp; omega) ?_); intro x5 w5 o5 g5; (have HO5 := Lib.hid (And.intro o5 g5)); clear o5 g5))
      go_roundg (L.length - (i + 1))
      case measure => omega
      case rel =>
        refine ⟨i + 1, Lc ++ [⟨kd, id, kk, .slice uad m ucap, m, X, Y⟩], by go_num, by omega, rfl, Lib.hid ⟨ChRow.more (x := ⟨kd, id, kk, .slice uad m ucap, m, X, Y⟩) HC.out.1 HGb.out.1 HO5.out.1 HO5.out.2 (ptsF_le HGb.out.2 (by omega)) HS.out.2.2.1 HS.out.2.2.2, ?_⟩, Lib.hid (HO5.out.2.gr (Gr.trans HG.out HGb.out.1) (fun k hk => (World.ownsRow.lt HC.out.1.own k hk).1))⟩
        rw [HS.out.1, List.map_append, HC.out.2]
        rfl
    · obtain rfl : i = L.length := by omega
      have ti : decide ((L.length : Int) < (L.length : Int)) = false := decide_eq_false (by omega)
      have ti2 : decide (L.length < L.length) = false := decide_eq_false (by omega)
      clear hk
      go_wp2_with fail
      go_ret
      exact ⟨_, Lc, rfl, HC.out.1, by rw [HC.out.2, List.take_length]; exact HL.out, HG.out⟩
end
end Go.Proofs.YtpomllpplpalkaaGreatDoor
