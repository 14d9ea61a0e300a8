/- stage's law: a map on both sides -/
import Derived.Test.YtpomllpplpalkaaGreatDoorTn
import Derived.Test.YtpomllpplpalkaaGreatDoorTj
namespace Go.Proofs.YtpomllpplpalkaaGreatDoor
set_option linter.unusedVariables false
set_option linter.unusedSimpArgs false
open Go.ChangeShapes Go.WideShapes Go.ChangeAt Go.RowKit Go.Maps

def Its (w : World) (v : Value) (n : Nat) (D : Nat → MChg) : Prop :=
  ∃ (ad : Option Addr) (cap B off : Nat), v = .slice ad n cap ∧ n ≤ cap ∧ cap ≤ 9223372036854775807 ∧ (0 < n → ad = some ⟨B, off, none⟩) ∧ ∀ k, k < n → w.cell? ⟨B, off + k * 3, none⟩ = some (.int .i64 (D k).id) ∧ w.cell? ⟨B, off + k * 3 + 1, none⟩ = some (.int .i64 (D k).k) ∧ w.cell? ⟨B, off + k * 3 + 2, none⟩ = some (D k).v ∧ Pts w (D k).v (D k).n (D k).X (D k).Y ∧ i64R (D k).id ∧ (D k).kd = 1
theorem its_gr {a b : World} {v : Value} {n : Nat} {D : Nat → MChg} (h : Its a v n D) (g : Gr a b) : Its b v n D := by
  obtain ⟨ad, cap, B, off, e, h1, h2, h3, h4⟩ := h
  exact ⟨ad, cap, B, off, e, h1, h2, h3, fun k hk => by
    obtain ⟨q0, q1, q2, q3, q4⟩ := h4 k hk
    exact ⟨cell_gr g q0, cell_gr g q1, cell_gr g q2, pts_gr q3 g, q4⟩⟩
section
variable {W w : World} {N : Nat} {Q : Nat → Nat} {M : Nat → Option Nat} {σ : Nat → Int → Option MO} {X : Nat} {τ : Int → Option MO} {L : List MChg}
theorem two_step {kd id kk : Int} {n : Nat} {Xf Yf : Nat → Int} {v : Value} (hi : i64R id) (hN : N < 1000000) (F : Fam W w N 1 Q M σ) (R : RmAt W w W.heap.size X τ L) (hp : Pts w v n Xf Yf) :
    Calls Tryz.prog 27 #[.pointer (some ⟨Q 0, 0, none⟩), .agg #[.int .i64 kd, .int .i64 id, .int .i64 kk, v]] w fun e w' => ∃ u M', e = .returned u ∧ OErr w' u (apN (σ 0) kd id kk n Xf Yf) ∧ Fam W w' (N + 1) 1 Q M' (fun _ => apS (σ 0) kd id kk n Xf Yf) ∧ RmAt W w' W.heap.size X τ L ∧ Kx (fun k => k = Q 0 ∨ M 0 = some k) w w' := by
  refine (md_Apply hi hN w (F.md 0 (by decide)) hp).mono ?_
  intro e w' h
  have h' := h
  obtain ⟨_, _, _, -, -, -, -, -, K⟩ := h'
  obtain ⟨o, u, M', rfl, hw, -, F'⟩ := F.done (by decide) h
  refine ⟨u, M', rfl, oerr_werr hw, F'.as (fun _ _ => rfl) (fun i hi => by
    obtain rfl : i = 0 := by omega
    rfl), rmAt_kx R K (fun i hi => ⟨?_, F.at (by decide) hi (by decide), F.at (by decide) hi (by decide)⟩), K⟩
  rcases hi with e | e
  · rw [e]; exact F.hq 0 (by decide)
  · exact F.hm 0 (by decide) i e
theorem fam_rm {w' : World} (F : Fam W w N 1 Q M σ) (R : RmAt W w W.heap.size X τ L) (K : Kx (fun j => j = X) w w') : Fam W w' N 1 Q M σ := F.ty K (fun i hi => by
  obtain ⟨sv, h, -⟩ := R.row
  subst hi
  exact ⟨R.hX, noTy_of h (by decide), noTy_of h (by decide), noMap_of h⟩)
end
theorem fam_first {W w w' : World} (hw : Gr W w) (e0 : w' = w.alloc (.cells #[.map none] 105)) : Fam W w' 0 1 (fun _ => w.heap.size) (fun _ => none) (fun _ _ => none) := by
  subst e0
  exact ⟨fun _ _ => mdAt_new (fun _ _ => rfl) (fun m h => (by cases h)), fun _ _ => hw.size, fun _ _ m h => (by cases h), fun i j hi hj e => absurd (show i = j by omega) e, Gr.trans hw ((Below.refl _ _).alloc (Nat.le_refl _) _)⟩
def MadeTo (W : World) (n : Nat) (s : Int → Option MO) (e : Ending) (w' : World) : Prop := ∃ Q X M L, e = .returned (.tuple #[.pointer (some ⟨Q, 0, none⟩), .pointer (some ⟨X, 0, none⟩), .bool true]) ∧ Fam W w' n 1 (fun _ => Q) M (fun _ => s) ∧ RmAt W w' W.heap.size X s L
set_option maxHeartbeats 8000000 in
set_option maxRecDepth 100000 in
theorem st_made {v : Value} {n : Nat} {D : Nat → MChg} (hn : n ≤ 60) (W : World) (h : Its W v n D) : Calls Tryz.prog 20 #[v] W fun e w' => MadeTo W n (stM D n) e w' := by
  obtain ⟨ad, cap, B, off, rfl, h1, h2, h3, h4⟩ := h
  have HX := Lib.hid h4
  have HA := Lib.hid h3
  have hn9 : (n : Int) ≤ 60 := by omega
  clear h3 h4
  go_enter Tryz.func20, Tryz.ntmps20
  go_wp2_with fail
  go_at_call 12
  refine (md_New W).mono ?_
  rintro e w0 ⟨rfl, e0⟩
  have F0 := fam_first (Below.refl W.heap.size W) e0
  have HF0 := Lib.hid F0
  have hQ0 : W.heap.size < w0.heap.size := mdAt_ltQ (F0.md 0 (by decide))
  clear F0 e0
  go_wp2_with fail
  have HF1 : Hid (Fam W (w0.alloc (.cells #[.slice none 0 0] 74)) 0 1 (fun _ => W.heap.size) (fun _ => none) (fun _ => stM D 0)) := Lib.hid (HF0.out.to ((Below.refl _ _).alloc (Nat.le_refl _) _))
  have HR1 : Hid (RmAt W (w0.alloc (.cells #[.slice none 0 0] 74)) W.heap.size w0.heap.size (stM D 0) []) := Lib.hid ⟨⟨.slice none 0 0, by show (w0.heap.push _)[w0.heap.size]? = _; exact Array.getElem?_push_size, World.ownsRow_nil _ _ _ _⟩, rRel_nil, fun c h => (by cases h), HF1.out.gr, Nat.le_of_lt hQ0⟩
  go_loopg [7] n (fun m x wr => ∃ (i : Nat) (M : Nat → Option Nat) (L : List MChg), x = .int .i64 i ∧ i ≤ n ∧ m = n - i ∧ L.length ≤ i ∧ Hid (Fam W wr i 1 (fun _ => W.heap.size) M (fun _ => stM D i)) ∧ Hid (RmAt W wr W.heap.size w0.heap.size (stM D i) L))
  case atStart => exact ⟨0, fun _ => none, [], rfl, Nat.zero_le _, by omega, Nat.le_refl _, HF1, HR1⟩
  case round =>
    obtain ⟨i, M, L, rfl, hi, hk, hLi, HF, HR⟩ := hrel
    by_cases hlt : i < n
    · have ti : decide ((i : Int) < (n : Int)) = true := decide_eq_true (by omega)
      have ti2 : decide (i < n) = true := decide_eq_true hlt
      have ti3 : (i : Int) < (n : Int) := by omega
      have ti4 : (i : Int) < (cap : Int) := by omega
      have hmm2 : n - (i + 1) < gk := by omega
      obtain rfl := HA.out (by omega)
      obtain ⟨q0, q1, q2, q3, q4, q5⟩ := HX.out i hlt
      have es : stM D (i + 1) = apS (stM D i) (D i).kd (D i).id (D i).k (D i).n (D i).X (D i).Y := rfl
      rcases ec : D i with ⟨kd, id, kk, vv, m, Xf, Yf⟩
      rw [ec] at q0 q1 q2 q3 q4 q5 es
      simp only at q0 q1 q2 q3 q4 q5 es
      subst q5
      have gwr := HF.out.gr
      have p0 := cell_gr gwr q0
      have p1 := cell_gr gwr q1
      have p2 := cell_gr gwr q2
      have zB := World.block_lt_of_cell? _ _ p0
      have HES := Lib.hid es
      have HP := Lib.hid (And.intro q3 q4)
      obtain ⟨pad, pcap, _, _, rfl, _⟩ := q3
      have hlQ := mdAt_ltQ (HF.out.md 0 (by decide))
      have hlM : ∀ x, M 0 = some x → W.heap.size ≤ x ∧ x < wr.heap.size := fun x hx => ⟨HF.out.hm 0 (by decide) x hx, mdAt_ltM (HF.out.md 0 (by decide)) hx⟩
      have hlX : w0.heap.size < wr.heap.size := by
        obtain ⟨sv, hh, -⟩ := HR.out.row
        exact World.block_lt_of_cell? _ _ (Hm.cell_of_heap hh 0)
      have HLM := Lib.hid hlM
      have hW0 := hQ0
      have AA := Lib.hid (fun w' (g : Gr wr w') => two_step (kd := 1) (kk := kk) (v := .slice pad m pcap) HP.out.2 (by omega) (HF.out.to g) (rmAt_gr HR.out g) (pts_gr HP.out.1 (Gr.trans HF.out.gr g)))
      have hwr := gwr.size
      clear q0 q1 q2 q4 es ec hlM
      go_wp2_with fail
      try simp only [List.append]
      refine Oe.wp_region_ord (R := Kx (fun k => W.heap.size ≤ k ∧ k ≠ wr.heap.size)) [(0, false), (1, false), (4, false), (5, false), (2, true), (3, true), (6, true), (7, false)] (by kernel_rfl) (by kernel_rfl) ?_
      intro w1 hw1 KQ hKQ
      have hhw1 := Kx.of_gr (S := (fun k => W.heap.size ≤ k ∧ k ≠ wr.heap.size)) hw1
      have cw1_0_0 : w1.cell? ⟨wr.heap.size, 0, none⟩ = some (.int .i64 1) := cell_kx hhw1 (by show ¬ (W.heap.size ≤ wr.heap.size ∧ wr.heap.size ≠ wr.heap.size); omega) (by go_simp)
      have cw1_0_1 : w1.cell? ⟨wr.heap.size, 1, none⟩ = some (.int .i64 id) := cell_kx hhw1 (by show ¬ (W.heap.size ≤ wr.heap.size ∧ wr.heap.size ≠ wr.heap.size); omega) (by go_simp)
      have cw1_0_2 : w1.cell? ⟨wr.heap.size, 2, none⟩ = some (.int .i64 kk) := cell_kx hhw1 (by show ¬ (W.heap.size ≤ wr.heap.size ∧ wr.heap.size ≠ wr.heap.size); omega) (by go_simp)
      have cw1_0_3 : w1.cell? ⟨wr.heap.size, 3, none⟩ = some (.slice pad m pcap) := cell_kx hhw1 (by show ¬ (W.heap.size ≤ wr.heap.size ∧ wr.heap.size ≠ wr.heap.size); omega) (by go_simp)
      have zw1_0 : wr.heap.size < w1.heap.size := World.block_lt_of_cell? _ _ cw1_0_0
      have gw1 : Gr W w1 := Kx.gr hhw1 (by have gg := gwr; have gs := gg.size; go_grown) (fun k hk => by have hk2 : W.heap.size ≤ k ∧ k ≠ wr.heap.size := hk; omega)
      have sw1 := hhw1.size
      clear gwr
      clear hhw1
      repeat (first | (refine Oe.wpO_skip (by simp only [List.getElem?_toArray, List.getElem?_cons_succ, List.getElem?_cons_zero] <;> rfl) rfl ?_; simp only [Act.put, List.setIfInBounds_toArray, List.set_cons_zero, List.set_cons_succ]) | (refine Oe.wpO_pure (by simp only [List.getElem?_toArray, List.getElem?_cons_succ, List.getElem?_cons_zero] <;> rfl) rfl ?_; apply Exists.intro; refine ⟨?_, ?_⟩; (· intro wx gx; have cx_0_0 : wx.cell? ⟨wr.heap.size, 0, none⟩ = some (.int .i64 1) := cell_kx gx (by show ¬ (W.heap.size ≤ wr.heap.size ∧ wr.heap.size ≠ wr.heap.size); omega) cw1_0_0; have cx_0_1 : wx.cell? ⟨wr.heap.size, 1, none⟩ = some (.int .i64 id) := cell_kx gx (by show ¬ (W.heap.size ≤ wr.heap.size ∧ wr.heap.size ≠ wr.heap.size); omega) cw1_0_1; have cx_0_2 : wx.cell? ⟨wr.heap.size, 2, none⟩ = some (.int .i64 kk) := cell_kx gx (by show ¬ (W.heap.size ≤ wr.heap.size ∧ wr.heap.size ≠ wr.heap.size); omega) cw1_0_2; have cx_0_3 : wx.cell? ⟨wr.heap.size, 3, none⟩ = some (.slice pad m pcap) := cell_kx gx (by show ¬ (W.heap.size ≤ wr.heap.size ∧ wr.heap.size ≠ wr.heap.size); omega) cw1_0_3; have zx_0 : wr.heap.size < wx.heap.size := World.block_lt_of_cell? _ _ cx_0_0; clear gx; all_goals (apply Oe.pAt_of_quiet; intro K hK; go_big_quiet_op; first | exact hK _ rfl | (apply Exists.intro; refine ⟨fun _ => ?_, ?_⟩; (· fail); exact hK _ rfl))); try simp only [Act.put, List.setIfInBounds_toArray, List.set_cons_zero, List.set_cons_succ]))
      refine Oe.wpO_call (by simp only [List.getElem?_toArray, List.getElem?_cons_succ, List.getElem?_cons_zero] <;> rfl) rfl ?_
      intro QS hQS
      go_wp2_with fail
      go_at_call 27
      (with_reducible refine ((AA.out _ (Gr.trans (by go_grown) hw1))).mono ?_)
      rintro e w2 ⟨u2, M2, rfl, hu2, F2, R2, K2⟩
      have hhw2 : Kx (fun k => W.heap.size ≤ k ∧ k ≠ wr.heap.size) w1 w2 := K2.mono (fun k hk => (by rcases hk with e | e; (have e2 : k = W.heap.size := e; exact ⟨by omega, by omega⟩); (have e3 := HLM.out k e; exact ⟨e3.1, by omega⟩)))
      go_wp2_with fail
      first | (apply Exists.intro; refine ⟨?_, hhw2, ?_⟩; (· simp only [Act.put, List.setIfInBounds_toArray, List.set_cons_zero, List.set_cons_succ]; rfl)) | (refine ⟨hhw2, ?_⟩)
      have cw2_0_0 : w2.cell? ⟨wr.heap.size, 0, none⟩ = some (.int .i64 1) := cell_kx hhw2 (by show ¬ (W.heap.size ≤ wr.heap.size ∧ wr.heap.size ≠ wr.heap.size); omega) (by go_simp)
      have cw2_0_1 : w2.cell? ⟨wr.heap.size, 1, none⟩ = some (.int .i64 id) := cell_kx hhw2 (by show ¬ (W.heap.size ≤ wr.heap.size ∧ wr.heap.size ≠ wr.heap.size); omega) (by go_simp)
      have cw2_0_2 : w2.cell? ⟨wr.heap.size, 2, none⟩ = some (.int .i64 kk) := cell_kx hhw2 (by show ¬ (W.heap.size ≤ wr.heap.size ∧ wr.heap.size ≠ wr.heap.size); omega) (by go_simp)
      have cw2_0_3 : w2.cell? ⟨wr.heap.size, 3, none⟩ = some (.slice pad m pcap) := cell_kx hhw2 (by show ¬ (W.heap.size ≤ wr.heap.size ∧ wr.heap.size ≠ wr.heap.size); omega) (by go_simp)
      have zw2_0 : wr.heap.size < w2.heap.size := World.block_lt_of_cell? _ _ cw2_0_0
      have gw2 : Gr W w2 := Kx.gr hhw2 gw1 (fun k hk => by have hk2 : W.heap.size ≤ k ∧ k ≠ wr.heap.size := hk; omega)
      have sw2 := hhw2.size
      clear gw1 zw1_0 cw1_0_0 cw1_0_1 cw1_0_2 cw1_0_3
      clear hhw2
      try simp only [Act.put, List.setIfInBounds_toArray, List.set_cons_zero, List.set_cons_succ]
      repeat (first | (refine Oe.wpO_skip (by simp only [List.getElem?_toArray, List.getElem?_cons_succ, List.getElem?_cons_zero] <;> rfl) rfl ?_; simp only [Act.put, List.setIfInBounds_toArray, List.set_cons_zero, List.set_cons_succ]) | (refine Oe.wpO_pure (by simp only [List.getElem?_toArray, List.getElem?_cons_succ, List.getElem?_cons_zero] <;> rfl) rfl ?_; apply Exists.intro; refine ⟨?_, ?_⟩; (· intro wx gx; have cx_0_0 : wx.cell? ⟨wr.heap.size, 0, none⟩ = some (.int .i64 1) := cell_kx gx (by show ¬ (W.heap.size ≤ wr.heap.size ∧ wr.heap.size ≠ wr.heap.size); omega) cw2_0_0; have cx_0_1 : wx.cell? ⟨wr.heap.size, 1, none⟩ = some (.int .i64 id) := cell_kx gx (by show ¬ (W.heap.size ≤ wr.heap.size ∧ wr.heap.size ≠ wr.heap.size); omega) cw2_0_1; have cx_0_2 : wx.cell? ⟨wr.heap.size, 2, none⟩ = some (.int .i64 kk) := cell_kx gx (by show ¬ (W.heap.size ≤ wr.heap.size ∧ wr.heap.size ≠ wr.heap.size); omega) cw2_0_2; have cx_0_3 : wx.cell? ⟨wr.heap.size, 3, none⟩ = some (.slice pad m pcap) := cell_kx gx (by show ¬ (W.heap.size ≤ wr.heap.size ∧ wr.heap.size ≠ wr.heap.size); omega) cw2_0_3; have zx_0 : wr.heap.size < wx.heap.size := World.block_lt_of_cell? _ _ cx_0_0; clear gx; all_goals (apply Oe.pAt_of_quiet; intro K hK; go_big_quiet_op; first | exact hK _ rfl | (apply Exists.intro; refine ⟨fun _ => ?_, ?_⟩; (· fail); exact hK _ rfl))); try simp only [Act.put, List.setIfInBounds_toArray, List.set_cons_zero, List.set_cons_succ]))
      have HF2 := Lib.hid (And.intro F2 (And.intro R2 hu2))
      clear F2 R2 hu2
      refine Oe.wpO_call (by simp only [List.getElem?_toArray, List.getElem?_cons_succ, List.getElem?_cons_zero] <;> rfl) rfl ?_
      intro QS hQS
      go_wp2_with fail
      go_at_call 19
      (with_reducible refine ((c_Code_oerr _ HF2.out.2.2)).mono ?_)
      rintro e w3 ⟨rfl, hw3⟩
      have hhw3 : Kx (fun k => W.heap.size ≤ k ∧ k ≠ wr.heap.size) w2 w3 := Kx.of_gr hw3
      go_wp2_with fail
      first | (apply Exists.intro; refine ⟨?_, hhw3, ?_⟩; (· simp only [Act.put, List.setIfInBounds_toArray, List.set_cons_zero, List.set_cons_succ]; rfl)) | (refine ⟨hhw3, ?_⟩)
      have cw3_0_0 : w3.cell? ⟨wr.heap.size, 0, none⟩ = some (.int .i64 1) := cell_kx hhw3 (by show ¬ (W.heap.size ≤ wr.heap.size ∧ wr.heap.size ≠ wr.heap.size); omega) (by go_simp)
      have cw3_0_1 : w3.cell? ⟨wr.heap.size, 1, none⟩ = some (.int .i64 id) := cell_kx hhw3 (by show ¬ (W.heap.size ≤ wr.heap.size ∧ wr.heap.size ≠ wr.heap.size); omega) (by go_simp)
      have cw3_0_2 : w3.cell? ⟨wr.heap.size, 2, none⟩ = some (.int .i64 kk) := cell_kx hhw3 (by show ¬ (W.heap.size ≤ wr.heap.size ∧ wr.heap.size ≠ wr.heap.size); omega) (by go_simp)
      have cw3_0_3 : w3.cell? ⟨wr.heap.size, 3, none⟩ = some (.slice pad m pcap) := cell_kx hhw3 (by show ¬ (W.heap.size ≤ wr.heap.size ∧ wr.heap.size ≠ wr.heap.size); omega) (by go_simp)
      have zw3_0 : wr.heap.size < w3.heap.size := World.block_lt_of_cell? _ _ cw3_0_0
      have gw3 : Gr W w3 := Kx.gr hhw3 gw2 (fun k hk => by have hk2 : W.heap.size ≤ k ∧ k ≠ wr.heap.size := hk; omega)
      have sw3 := hhw3.size
      clear gw2 zw2_0 cw2_0_0 cw2_0_1 cw2_0_2 cw2_0_3
      clear hhw3
      try simp only [Act.put, List.setIfInBounds_toArray, List.set_cons_zero, List.set_cons_succ]
      repeat (first | (refine Oe.wpO_skip (by simp only [List.getElem?_toArray, List.getElem?_cons_succ, List.getElem?_cons_zero] <;> rfl) rfl ?_; simp only [Act.put, List.setIfInBounds_toArray, List.set_cons_zero, List.set_cons_succ]) | (refine Oe.wpO_pure (by simp only [List.getElem?_toArray, List.getElem?_cons_succ, List.getElem?_cons_zero] <;> rfl) rfl ?_; apply Exists.intro; refine ⟨?_, ?_⟩; (· intro wx gx; have cx_0_0 : wx.cell? ⟨wr.heap.size, 0, none⟩ = some (.int .i64 1) := cell_kx gx (by show ¬ (W.heap.size ≤ wr.heap.size ∧ wr.heap.size ≠ wr.heap.size); omega) cw3_0_0; have cx_0_1 : wx.cell? ⟨wr.heap.size, 1, none⟩ = some (.int .i64 id) := cell_kx gx (by show ¬ (W.heap.size ≤ wr.heap.size ∧ wr.heap.size ≠ wr.heap.size); omega) cw3_0_1; have cx_0_2 : wx.cell? ⟨wr.heap.size, 2, none⟩ = some (.int .i64 kk) := cell_kx gx (by show ¬ (W.heap.size ≤ wr.heap.size ∧ wr.heap.size ≠ wr.heap.size); omega) cw3_0_2; have cx_0_3 : wx.cell? ⟨wr.heap.size, 3, none⟩ = some (.slice pad m pcap) := cell_kx gx (by show ¬ (W.heap.size ≤ wr.heap.size ∧ wr.heap.size ≠ wr.heap.size); omega) cw3_0_3; have zx_0 : wr.heap.size < wx.heap.size := World.block_lt_of_cell? _ _ cx_0_0; clear gx; all_goals (apply Oe.pAt_of_quiet; intro K hK; go_big_quiet_op; first | exact hK _ rfl | (apply Exists.intro; refine ⟨fun _ => ?_, ?_⟩; (· fail); exact hK _ rfl))); try simp only [Act.put, List.setIfInBounds_toArray, List.set_cons_zero, List.set_cons_succ]))
      have HG3 := Lib.hid hw3
      refine Oe.wpO_call (by simp only [List.getElem?_toArray, List.getElem?_cons_succ, List.getElem?_cons_zero] <;> rfl) rfl ?_
      intro QS hQS
      go_wp2_with fail
      go_at_call 45
      (with_reducible refine ((rm_Apply HP.out.2 (by omega) gw3.size (rmAt_gr HF2.out.2.1 HG3.out) HP.out.1)).mono ?_)
      rintro e w4 ⟨L4, rfl, R4, hL4, K4⟩
      have hhw4 : Kx (fun k => W.heap.size ≤ k ∧ k ≠ wr.heap.size) w3 w4 := K4.mono (fun k hk => (by have e2 : k = w0.heap.size := hk; exact ⟨by omega, by omega⟩))
      go_wp2_with fail
      first | (apply Exists.intro; refine ⟨?_, hhw4, ?_⟩; (· simp only [Act.put, List.setIfInBounds_toArray, List.set_cons_zero, List.set_cons_succ]; rfl)) | (refine ⟨hhw4, ?_⟩)
      have cw4_0_0 : w4.cell? ⟨wr.heap.size, 0, none⟩ = some (.int .i64 1) := cell_kx hhw4 (by show ¬ (W.heap.size ≤ wr.heap.size ∧ wr.heap.size ≠ wr.heap.size); omega) (by go_simp)
      have cw4_0_1 : w4.cell? ⟨wr.heap.size, 1, none⟩ = some (.int .i64 id) := cell_kx hhw4 (by show ¬ (W.heap.size ≤ wr.heap.size ∧ wr.heap.size ≠ wr.heap.size); omega) (by go_simp)
      have cw4_0_2 : w4.cell? ⟨wr.heap.size, 2, none⟩ = some (.int .i64 kk) := cell_kx hhw4 (by show ¬ (W.heap.size ≤ wr.heap.size ∧ wr.heap.size ≠ wr.heap.size); omega) (by go_simp)
      have cw4_0_3 : w4.cell? ⟨wr.heap.size, 3, none⟩ = some (.slice pad m pcap) := cell_kx hhw4 (by show ¬ (W.heap.size ≤ wr.heap.size ∧ wr.heap.size ≠ wr.heap.size); omega) (by go_simp)
      have zw4_0 : wr.heap.size < w4.heap.size := World.block_lt_of_cell? _ _ cw4_0_0
      have gw4 : Gr W w4 := Kx.gr hhw4 gw3 (fun k hk => by have hk2 : W.heap.size ≤ k ∧ k ≠ wr.heap.size := hk; omega)
      have sw4 := hhw4.size
      clear gw3 zw3_0 cw3_0_0 cw3_0_1 cw3_0_2 cw3_0_3
      clear hhw4
      try simp only [Act.put, List.setIfInBounds_toArray, List.set_cons_zero, List.set_cons_succ]
      repeat (first | (refine Oe.wpO_skip (by simp only [List.getElem?_toArray, List.getElem?_cons_succ, List.getElem?_cons_zero] <;> rfl) rfl ?_; simp only [Act.put, List.setIfInBounds_toArray, List.set_cons_zero, List.set_cons_succ]) | (refine Oe.wpO_pure (by simp only [List.getElem?_toArray, List.getElem?_cons_succ, List.getElem?_cons_zero] <;> rfl) rfl ?_; apply Exists.intro; refine ⟨?_, ?_⟩; (· intro wx gx; have cx_0_0 : wx.cell? ⟨wr.heap.size, 0, none⟩ = some (.int .i64 1) := cell_kx gx (by show ¬ (W.heap.size ≤ wr.heap.size ∧ wr.heap.size ≠ wr.heap.size); omega) cw4_0_0; have cx_0_1 : wx.cell? ⟨wr.heap.size, 1, none⟩ = some (.int .i64 id) := cell_kx gx (by show ¬ (W.heap.size ≤ wr.heap.size ∧ wr.heap.size ≠ wr.heap.size); omega) cw4_0_1; have cx_0_2 : wx.cell? ⟨wr.heap.size, 2, none⟩ = some (.int .i64 kk) := cell_kx gx (by show ¬ (W.heap.size ≤ wr.heap.size ∧ wr.heap.size ≠ wr.heap.size); omega) cw4_0_2; have cx_0_3 : wx.cell? ⟨wr.heap.size, 3, none⟩ = some (.slice pad m pcap) := cell_kx gx (by show ¬ (W.heap.size ≤ wr.heap.size ∧ wr.heap.size ≠ wr.heap.size); omega) cw4_0_3; have zx_0 : wr.heap.size < wx.heap.size := World.block_lt_of_cell? _ _ cx_0_0; clear gx; all_goals (apply Oe.pAt_of_quiet; intro K hK; go_big_quiet_op; first | exact hK _ rfl | (apply Exists.intro; refine ⟨fun _ => ?_, ?_⟩; (· fail); exact hK _ rfl))); try simp only [Act.put, List.setIfInBounds_toArray, List.set_cons_zero, List.set_cons_succ]))
      have HF4 := Lib.hid (And.intro (fam_rm (HF2.out.1.to HG3.out) (rmAt_gr HF2.out.2.1 HG3.out) K4) R4)
      clear R4 K4
      refine Oe.wpO_nil (hKQ _ _ ?_)
      clear hKQ KQ
      go_wp2_with fail
      go_roundg (n - (i + 1))
      case measure => omega
      case rel => exact ⟨i + 1, M2, L4, by go_num, by omega, rfl, by omega, Lib.hid (by rw [HES.out]; exact HF4.out.1), Lib.hid (by rw [HES.out]; exact HF4.out.2)⟩
    · obtain rfl : i = n := by omega
      have ti : decide ((i : Int) < (i : Int)) = false := decide_eq_false (by omega)
      have ti2 : decide (i < i) = false := decide_eq_false (by omega)
      clear hk HF0 HF1 HR1
      go_wp2_with fail
      refine bodyPost_ret (v := .tuple #[.pointer (some ⟨W.heap.size, 0, none⟩), .pointer (some ⟨w0.heap.size, 0, none⟩), .bool true]) (by simp [results, Tryz.results20, go_sem, *]) rfl ?_
      exact ⟨W.heap.size, w0.heap.size, M, L, rfl, HF.out, HR.out⟩
end Go.Proofs.YtpomllpplpalkaaGreatDoor
