import Derived.Test.YtpomllpplpalkaaGreatDoorTn
import Derived.Test.YtpomllpplpalkaaGreatDoorTj
import Derived.Test.YtpomllpplpalkaaGreatDoorWn
/- stage's law: a map on both sides -/
namespace Go.Proofs.YtpomllpplpalkaaGreatDoor
set_option linter.unusedVariables false
set_option linter.unusedSimpArgs false
open Go.ChangeShapes Go.WideShapes Go.ChangeAt Go.RowKit Go.Maps

def Its (w : World) (v : Value) (n : Nat) (D : Nat → MChg) : Prop :=
  ∃ (ad : Option Addr) (cap B off : Nat), v = .slice ad n cap ∧ n ≤ cap ∧ cap ≤ 9223372036854775807 ∧ (0 < n → ad = some ⟨B, off, none⟩) ∧ ∀ k, k < n → w.cell? ⟨B, off + k * 3, none⟩ = some (.int .i64 (D k).id) ∧ w.cell? ⟨B, off + k * 3 + 1, none⟩ = some (.int .i64 (D k).k) ∧ w.cell? ⟨B, off + k * 3 + 2, none⟩ = some (D k).v ∧ Pts w (D k).v (D k).n (D k).X (D k).Y ∧ i64R (D k).id ∧ (D k).kd = 1
theorem its_gr {a b : World} {v : Value} {n : Nat} {D : Nat → MChg} (h : Its a v n D) (g : Gr a b) : Its b v n D := by
  obtain ⟨ad, cap, B, off, e, h1, h2, h3, h4⟩ := h
  exact ⟨ad, cap, B, off, e, h1, h2, h3, fun k hk => by
    obtain ⟨q0, q1, q2, q3, q4⟩ := h4 k hk
    exact ⟨cell_gr g q0, cell_gr g q1, cell_gr g q2, pts_gr q3 g, q4⟩⟩
section
variable {W w : World} {N : Nat} {Q : Nat → Nat} {M : Nat → Option Nat} {σ : Nat → Int → Option MO} {X : Nat} {τ : Int → Option MO} {L : List MChg}
theorem two_step {kd id kk : Int} {n : Nat} {Xf Yf : Nat → Int} {v : Value} (hi : i64R id) (hN : N < 1000000) (F : Fam W w N 1 Q M σ) (R : RmAt W w W.heap.size X τ L) (hp : Pts w v n Xf Yf) :
    Calls Tryz.prog 27 #[.pointer (some ⟨Q 0, 0, none⟩), .agg #[.int .i64 kd, .int .i64 id, .int .i64 kk, v]] w fun e w' => ∃ u M', e = .returned u ∧ OErr w' u (apN (σ 0) kd id kk n Xf Yf) ∧ Fam W w' (N + 1) 1 Q M' (fun _ => apS (σ 0) kd id kk n Xf Yf) ∧ RmAt W w' W.heap.size X τ L ∧ Kx (fun k => k = Q 0 ∨ M 0 = some k) w w' := by
  refine (md_Apply hi hN w (F.md 0 (by decide)) hp).mono ?_
  intro e w' h
  have h' := h
  obtain ⟨_, _, _, -, -, -, -, -, K⟩ := h'
  obtain ⟨o, u, M', rfl, hw, -, F'⟩ := F.done (by decide) h
  refine ⟨u, M', rfl, oerr_werr hw, F'.as (fun _ _ => rfl) (fun i hi => by
    obtain rfl : i = 0 := by omega
    rfl), rmAt_kx R K (fun i hi => ⟨?_, F.at (by decide) hi (by decide), F.at (by decide) hi (by decide)⟩), K⟩
  rcases hi with e | e
  · rw [e]; exact F.hq 0 (by decide)
  · exact F.hm 0 (by decide) i e
theorem fam_rm {w' : World} (F : Fam W w N 1 Q M σ) (R : RmAt W w W.heap.size X τ L) (K : Kx (fun j => j = X) w w') : Fam W w' N 1 Q M σ := F.ty K (fun i hi => by
  obtain ⟨sv, h, -⟩ := R.row
  subst hi
  exact ⟨R.hX, noTy_of h (by decide), noTy_of h (by decide), noMap_of h⟩)
end
theorem fam_first {W w w' : World} (hw : Gr W w) (e0 : w' = w.alloc (.cells #[.map none] 105)) : Fam W w' 0 1 (fun _ => w.heap.size) (fun _ => none) (fun _ _ => none) := by
  subst e0
  exact ⟨fun _ _ => mdAt_new (fun _ _ => rfl) (fun m h => (by cases h)), fun _ _ => hw.size, fun _ _ m h => (by cases h), fun i j hi hj e => absurd (show i = j by omega) e, Gr.trans hw ((Below.refl _ _).alloc (Nat.le_refl _) _)⟩
def MadeTo (W : World) (n : Nat) (s : Int → Option MO) (e : Ending) (w' : World) : Prop := ∃ Q X M L, e = .returned (.tuple #[.pointer (some ⟨Q, 0, none⟩), .pointer (some ⟨X, 0, none⟩), .bool true]) ∧ Fam W w' n 1 (fun _ => Q) M (fun _ => s) ∧ RmAt W w' W.heap.size X s L
set_option maxHeartbeats 8000000 in
set_option maxRecDepth 100000 in
theorem st_made {v : Value} {n : Nat} {D : Nat → MChg} (hn : n ≤ 60) (W : World) (h : Its W v n D) : Calls Tryz.prog 20 #[v] W fun e w' => MadeTo W n (stM D n) e w' := by
  obtain ⟨ad, cap, B, off, rfl, h1, h2, h3, h4⟩ := h
  have HX := Lib.hid h4
  have HA := Lib.hid h3
  have hn9 : (n : Int) ≤ 60 := by omega
  clear h3 h4
  go_enter Tryz.func20, Tryz.ntmps20
  go_wp2_with fail
  go_at_call 12
  refine (md_New W).mono ?_
  rintro e w0 ⟨rfl, e0⟩
  have F0 := fam_first (Below.refl W.heap.size W) e0
  have HF0 := Lib.hid F0
  have hQ0 : W.heap.size < w0.heap.size := mdAt_ltQ (F0.md 0 (by decide))
  clear F0 e0
  go_wp2_with fail
  have HF1 : Hid (Fam W (w0.alloc (.cells #[.slice none 0 0] 74)) 0 1 (fun _ => W.heap.size) (fun _ => none) (fun _ => stM D 0)) := Lib.hid (HF0.out.to ((Below.refl _ _).alloc (Nat.le_refl _) _))
  have HR1 : Hid (RmAt W (w0.alloc (.cells #[.slice none 0 0] 74)) W.heap.size w0.heap.size (stM D 0) []) := Lib.hid ⟨⟨.slice none 0 0, by show (w0.heap.push _)[w0.heap.size]? = _; exact Array.getElem?_push_size, World.ownsRow_nil _ _ _ _⟩, rRel_nil, fun c h => (by cases h), HF1.out.gr, Nat.le_of_lt hQ0⟩
  go_loopg [7] n (fun m x wr => ∃ (i : Nat) (M : Nat → Option Nat) (L : List MChg), x = .int .i64 i ∧ i ≤ n ∧ m = n - i ∧ L.length ≤ i ∧ Hid (Fam W wr i 1 (fun _ => W.heap.size) M (fun _ => stM D i)) ∧ Hid (RmAt W wr W.heap.size w0.heap.size (stM D i) L))
  case atStart => exact ⟨0, fun _ => none, [], rfl, Nat.zero_le _, by omega, Nat.le_refl _, HF1, HR1⟩
  case round =>
    obtain ⟨i, M, L, rfl, hi, hk, hLi, HF, HR⟩ := hrel
    by_cases hlt : i < n
    · have ti : decide ((i : Int) < (n : Int)) = true := decide_eq_true (by omega)
      have ti2 : decide (i < n) = true := decide_eq_true hlt
      have ti3 : (i : Int) < (n : Int) := by omega
      have ti4 : (i : Int) < (cap : Int) := by omega
      have hmm2 : n - (i + 1) < gk := by omega
      obtain rfl := HA.out (by omega)
      obtain ⟨q0, q1, q2, q3, q4, q5⟩ := HX.out i hlt
      have es : stM D (i + 1) = apS (stM D i) (D i).kd (D i).id (D i).k (D i).n (D i).X (D i).Y := rfl
      rcases ec : D i with ⟨kd, id, kk, vv, m, Xf, Yf⟩
      rw [ec] at q0 q1 q2 q3 q4 q5 es
      simp only at q0 q1 q2 q3 q4 q5 es
      subst q5
      have gwr := HF.out.gr
      have p0 := cell_gr gwr q0
      have p1 := cell_gr gwr q1
      have p2 := cell_gr gwr q2
      have zB := World.block_lt_of_cell? _ _ p0
      have HES := Lib.hid es
      have HP := Lib.hid (And.intro q3 q4)
      obtain ⟨pad, pcap, _, _, rfl, _⟩ := q3
      have hlQ := mdAt_ltQ (HF.out.md 0 (by decide))
      have hlM : ∀ x, M 0 = some x → W.heap.size ≤ x ∧ x < wr.heap.size := fun x hx => ⟨HF.out.hm 0 (by decide) x hx, mdAt_ltM (HF.out.md 0 (by decide)) hx⟩
      have hlX : w0.heap.size < wr.heap.size := by
        obtain ⟨sv, hh, -⟩ := HR.out.row
        exact World.block_lt_of_cell? _ _ (Hm.cell_of_heap hh 0)
      have HLM := Lib.hid hlM
      have hW0 := hQ0
      have AA := Lib.hid (fun w' (g : Gr wr w') => two_step (kd := 1) (kk := kk) (v := .slice pad m pcap) HP.out.2 (by omega) (HF.out.to g) (rmAt_gr HR.out g) (pts_gr HP.out.1 (Gr.trans HF.out.gr g)))
      have hwr := gwr.size
      clear q0 q1 q2 q4 es ec hlM
      go_wp2_with fail
      try simp only [List.append]
      refine Oe.wp_region_ord (R := Kx (fun k => W.heap.size ≤ k ∧ k ≠ wr.heap.size)) [(0, false), (1, false), (4, false), (5, false), (2, true), (3, true), (6, true), (7, false)] (by kernel_rfl) (by kernel_rfl) ?_
      intro w1 hw1 KQ hKQ
      have hhw1 := Kx.of_gr (S := (fun k => W.heap.size ≤ k ∧ k ≠ wr.heap.size)) hw1
      have cw1_0_0 : w1.cell? ⟨wr.heap.size, 0, none⟩ = some (.int .i64 1) := cell_kx hhw1 (by show ¬ (W.heap.size ≤ wr.heap.size ∧ wr.heap.size ≠ wr.heap.size); omega) (by go_simp)
      have cw1_0_1 : w1.cell? ⟨wr.heap.size, 1, none⟩ = some (.int .i64 id) := cell_kx hhw1 (by show ¬ (W.heap.size ≤ wr.heap.size ∧ wr.heap.size ≠ wr.heap.size); omega) (by go_simp)
      have cw1_0_2 : w1.cell? ⟨wr.heap.size, 2, none⟩ = some (.int .i64 kk) := cell_kx hhw1 (by show ¬ (W.heap.size ≤ wr.heap.size ∧ wr.heap.size ≠ wr.heap.size); omega) (by go_simp)
      have cw1_0_3 : w1.cell? ⟨wr.heap.size, 3, none⟩ = some (.slice pad m pcap) := cell_kx hhw1 (by show ¬ (W.heap.size ≤ wr.heap.size ∧ wr.heap.size ≠ wr.heap.size); omega) (by go_simp)
      have zw1_0 : wr.heap.size < w1.heap.size := World.block_lt_of_cell? _ _ cw1_0_0
      have gw1 : Gr W w1 := Kx.gr hhw1 (by have gg := gwr; have gs := gg.size; go_grown) (fun k hk => by have hk2 : W.heap.size ≤ k ∧ k ≠ wr.heap.size := hk; omega)
      have sw1 := hhw1.size
      clear gwr
      clear hhw1
      repeat (first | (refine Oe.wpO_skip (by simp only [List.getElem?_toArray, List.getElem?_cons_succ, List.getElem?_cons_zero] <;> rfl) rfl ?_; simp only [Act.put, List.setIfInBounds_toArray, List.set_cons_zero, List.set_cons_succ]) | (refine Oe.wpO_pure (by simp only [List.getElem?_toArray, List.getElem?_cons_succ, List.getElem?_cons_zero] <;> rfl) rfl ?_; apply Exists.intro; refine ⟨?_, ?_⟩; (· intro wx gx; have cx_0_0 : wx.cell? ⟨wr.heap.size, 0, none⟩ = some (.int .i64 1) := cell_kx gx (by show ¬ (W.heap.size ≤ wr.heap.size ∧ wr.heap.size ≠ wr.heap.size); omega) cw1_0_0; have cx_0_1 : wx.cell? ⟨wr.heap.size, 1, none⟩ = some (.int .i64 id) := cell_kx gx (by show ¬ (W.heap.size ≤ wr.heap.size ∧ wr.heap.size ≠ wr.heap.size); omega) cw1_0_1; have cx_0_2 : wx.cell? ⟨wr.heap.size, 2, none⟩ = some (.int .i64 kk) := cell_kx gx (by show ¬ (W.heap.size ≤ wr.heap.size ∧ wr.heap.size ≠ wr.heap.size); omega) cw1_0_2; have cx_0_3 : wx.cell? ⟨wr.heap.size, 3, none⟩ = some (.slice pad m pcap) := cell_kx gx (by show ¬ (W.heap.size ≤ wr.heap.size ∧ wr.heap.size ≠ wr.heap.size); omega) cw1_0_3; have zx_0 : wr.heap.size < wx.heap.size := World.block_lt_of_cell? _ _ cx_0_0; clear gx; all_goals (apply Oe.pAt_of_quiet; intro K hK; go_big_quiet_op; first | exact hK _ rfl | (apply Exists.intro; refine ⟨fun _ => ?_, ?_⟩; (· fail); exact hK _ rfl))); try simp only [Act.put, List.setIfInBounds_toArray, List.set_cons_zero, List.set_cons_succ]))
      refine Oe.wpO_call (by simp only [List.getElem?_toArray, List.getElem?_cons_succ, List.getElem?_cons_zero] <;> rfl) rfl ?_
      intro QS hQS
      go_wp2_with fail
      go_at_call 27
      (with_reducible refine ((AA.out _ (Gr.trans (by go_grown) hw1))).mono ?_)
      rintro e w2 ⟨u2, M2, rfl, hu2, F2, R2, K2⟩
      have hhw2 : Kx (fun k => W.heap.size ≤ k ∧ k ≠ wr.heap.size) w1 w2 := K2.mono (fun k hk => (by rcases hk with e | e; (have e2 : k = W.heap.size := e; exact ⟨by omega, by omega⟩); (have e3 := HLM.out k e; exact ⟨e3.1, by omega⟩)))
      go_wp2_with fail
      first | (apply Exists.intro; refine ⟨?_, hhw2, ?_⟩; (· simp only [Act.put, List.setIfInBounds_toArray, List.set_cons_zero, List.set_cons_succ]; rfl)) | (refine ⟨hhw2, ?_⟩)
      have cw2_0_0 : w2.cell? ⟨wr.heap.size, 0, none⟩ = some (.int .i64 1) := cell_kx hhw2 (by show ¬ (W.heap.size ≤ wr.heap.size ∧ wr.heap.size ≠ wr.heap.size); omega) (by go_simp)
      have cw2_0_1 : w2.cell? ⟨wr.heap.size, 1, none⟩ = some (.int .i64 id) := cell_kx hhw2 (by show ¬ (W.heap.size ≤ wr.heap.size ∧ wr.heap.size ≠ wr.heap.size); omega) (by go_simp)
      have cw2_0_2 : w2.cell? ⟨wr.heap.size, 2, none⟩ = some (.int .i64 kk) := cell_kx hhw2 (by show ¬ (W.heap.size ≤ wr.heap.size ∧ wr.heap.size ≠ wr.heap.size); omega) (by go_simp)
      have cw2_0_3 : w2.cell? ⟨wr.heap.size, 3, none⟩ = some (.slice pad m pcap) := cell_kx hhw2 (by show ¬ (W.heap.size ≤ wr.heap.size ∧ wr.heap.size ≠ wr.heap.size); omega) (by go_simp)
      have zw2_0 : wr.heap.size < w2.heap.size := World.block_lt_of_cell? _ _ cw2_0_0
      have gw2 : Gr W w2 := Kx.gr hhw2 gw1 (fun k hk => by have hk2 : W.heap.size ≤ k ∧ k ≠ wr.heap.size := hk; omega)
      have sw2 := hhw2.size
      clear gw1 zw1_0 cw1_0_0 cw1_0_1 cw1_0_2 cw1_0_3
      clear hhw2
      try simp only [Act.put, List.setIfInBounds_toArray, List.set_cons_zero, List.set_cons_succ]
      repeat (first | (refine Oe.wpO_skip (by simp only [List.getElem?_toArray, List.getElem?_cons_succ, List.getElem?_cons_zero] <;> rfl) rfl ?_; simp only [Act.put, List.setIfInBounds_toArray, List.set_cons_zero, List.set_cons_succ]) | (refine Oe.wpO_pure (by simp only [List.getElem?_toArray, List.getElem?_cons_succ, List.getElem?_cons_zero] <;> rfl) rfl ?_; apply Exists.intro; refine ⟨?_, ?_⟩; (· intro wx gx; have cx_0_0 : wx.cell? ⟨wr.heap.size, 0, none⟩ = some (.int .i64 1) := cell_kx gx (by show ¬ (W.heap.size ≤ wr.heap.size ∧ wr.heap.size ≠ wr.heap.size); omega) cw2_0_0; have cx_0_1 : wx.cell? ⟨wr.heap.size, 1, none⟩ = some (.int .i64 id) := cell_kx gx (by show ¬ (W.heap.size ≤ wr.heap.size ∧ wr.heap.size ≠ wr.heap.size); omega) cw2_0_1; have cx_0_2 : wx.cell? ⟨wr.heap.size, 2, none⟩ = some (.int .i64 kk) := cell_kx gx (by show ¬ (W.heap.size ≤ wr.heap.size ∧ wr.heap.size ≠ wr.heap.size); omega) cw2_0_2; have cx_0_3 : wx.cell? ⟨wr.heap.size, 3, none⟩ = some (.slice pad m pcap) := cell_kx gx (by show ¬ (W.heap.size ≤ wr.heap.size ∧ wr.heap.size ≠ wr.heap.size); omega) cw2_0_3; have zx_0 : wr.heap.size < wx.heap.size := World.block_lt_of_cell? _ _ cx_0_0; clear gx; all_goals (apply Oe.pAt_of_quiet; intro K hK; go_big_quiet_op; first | exact hK _ rfl | (apply Exists.intro; refine ⟨fun _ => ?_, ?_⟩; (· fail); exact hK _ rfl))); try simp only [Act.put, List.setIfInBounds_toArray, List.set_cons_zero, List.set_cons_succ]))
      have HF2 := Lib.hid (And.intro F2 (And.intro R2 hu2))
      clear F2 R2 hu2
      refine Oe.wpO_call (by simp only [List.getElem?_toArray, List.getElem?_cons_succ, List.getElem?_cons_zero] <;> rfl) rfl ?_
      intro QS hQS
      go_wp2_with fail
      go_at_call 19
      (with_reducible refine ((c_Code_oerr _ HF2.out.2.2)).mono ?_)
      rintro e w3 ⟨rfl, hw3⟩
      have hhw3 : Kx (fun k => W.heap.size ≤ k ∧ k ≠ wr.heap.size) w2 w3 := Kx.of_gr hw3
      go_wp2_with fail
      first | (apply Exists.intro; refine ⟨?_, hhw3, ?_⟩; (· simp only [Act.put, List.setIfInBounds_toArray, List.set_cons_zero, List.set_cons_succ]; rfl)) | (refine ⟨hhw3, ?_⟩)
      have cw3_0_0 : w3.cell? ⟨wr.heap.size, 0, none⟩ = some (.int .i64 1) := cell_kx hhw3 (by show ¬ (W.heap.size ≤ wr.heap.size ∧ wr.heap.size ≠ wr.heap.size); omega) (by go_simp)
      have cw3_0_1 : w3.cell? ⟨wr.heap.size, 1, none⟩ = some (.int .i64 id) := cell_kx hhw3 (by show ¬ (W.heap.size ≤ wr.heap.size ∧ wr.heap.size ≠ wr.heap.size); omega) (by go_simp)
      have cw3_0_2 : w3.cell? ⟨wr.heap.size, 2, none⟩ = some (.int .i64 kk) := cell_kx hhw3 (by show ¬ (W.heap.size ≤ wr.heap.size ∧ wr.heap.size ≠ wr.heap.size); omega) (by go_simp)
      have cw3_0_3 : w3.cell? ⟨wr.heap.size, 3, none⟩ = some (.slice pad m pcap) := cell_kx hhw3 (by show ¬ (W.heap.size ≤ wr.heap.size ∧ wr.heap.size ≠ wr.heap.size); omega) (by go_simp)
      have zw3_0 : wr.heap.size < w3.heap.size := World.block_lt_of_cell? _ _ cw3_0_0
      have gw3 : Gr W w3 := Kx.gr hhw3 gw2 (fun k hk => by have hk2 : W.heap.size ≤ k ∧ k ≠ wr.heap.size := hk; omega)
      have sw3 := hhw3.size
      clear gw2 zw2_0 cw2_0_0 cw2_0_1 cw2_0_2 cw2_0_3
      clear hhw3
      try simp only [Act.put, List.setIfInBounds_toArray, List.set_cons_zero, List.set_cons_succ]
      repeat (first | (refine Oe.wpO_skip (by simp only [List.getElem?_toArray, List.getElem?_cons_succ, List.getElem?_cons_zero] <;> rfl) rfl ?_; simp only [Act.put, List.setIfInBounds_toArray, List.set_cons_zero, List.set_cons_succ]) | (refine Oe.wpO_pure (by simp only [List.getElem?_toArray, List.getElem?_cons_succ, List.getElem?_cons_zero] <;> rfl) rfl ?_; apply Exists.intro; refine ⟨?_, ?_⟩; (· intro wx gx; have cx_0_0 : wx.cell? ⟨wr.heap.size, 0, none⟩ = some (.int .i64 1) := cell_kx gx (by show ¬ (W.heap.size ≤ wr.heap.size ∧ wr.heap.size ≠ wr.heap.size); omega) cw3_0_0; have cx_0_1 : wx.cell? ⟨wr.heap.size, 1, none⟩ = some (.int .i64 id) := cell_kx gx (by show ¬ (W.heap.size ≤ wr.heap.size ∧ wr.heap.size ≠ wr.heap.size); omega) cw3_0_1; have cx_0_2 : wx.cell? ⟨wr.heap.size, 2, none⟩ = some (.int .i64 kk) := cell_kx gx (by show ¬ (W.heap.size ≤ wr.heap.size ∧ wr.heap.size ≠ wr.heap.size); omega) cw3_0_2; have cx_0_3 : wx.cell? ⟨wr.heap.size, 3, none⟩ = some (.slice pad m pcap) := cell_kx gx (by show ¬ (W.heap.size ≤ wr.heap.size ∧ wr.heap.size ≠ wr.heap.size); omega) cw3_0_3; have zx_0 : wr.heap.size < wx.heap.size := World.block_lt_of_cell? _ _ cx_0_0; clear gx; all_goals (apply Oe.pAt_of_quiet; intro K hK; go_big_quiet_op; first | exact hK _ rfl | (apply Exists.intro; refine ⟨fun _ => ?_, ?_⟩; (· fail); exact hK _ rfl))); try simp only [Act.put, List.setIfInBounds_toArray, List.set_cons_zero, List.set_cons_succ]))
      have HG3 := Lib.hid hw3
      refine Oe.wpO_call (by simp only [List.getElem?_toArray, List.getElem?_cons_succ, List.getElem?_cons_zero] <;> rfl) rfl ?_
      intro QS hQS
      go_wp2_with fail
      go_at_call 45
      (with_reducible refine ((rm_Apply HP.out.2 (by omega) gw3.size (rmAt_gr HF2.out.2.1 HG3.out) HP.out.1)).mono ?_)
      rintro e w4 ⟨L4, rfl, R4, hL4, K4⟩
      have hhw4 : Kx (fun k => W.heap.size ≤ k ∧ k ≠ wr.heap.size) w3 w4 := K4.mono (fun k hk => (by have e2 : k = w0.heap.size := hk; exact ⟨by omega, by omega⟩))
      go_wp2_with fail
      first | (apply Exists.intro; refine ⟨?_, hhw4, ?_⟩; (· simp only [Act.put, List.setIfInBounds_toArray, List.set_cons_zero, List.set_cons_succ]; rfl)) | (refine ⟨hhw4, ?_⟩)
      have cw4_0_0 : w4.cell? ⟨wr.heap.size, 0, none⟩ = some (.int .i64 1) := cell_kx hhw4 (by show ¬ (W.heap.size ≤ wr.heap.size ∧ wr.heap.size ≠ wr.heap.size); omega) (by go_simp)
      have cw4_0_1 : w4.cell? ⟨wr.heap.size, 1, none⟩ = some (.int .i64 id) := cell_kx hhw4 (by show ¬ (W.heap.size ≤ wr.heap.size ∧ wr.heap.size ≠ wr.heap.size); omega) (by go_simp)
      have cw4_0_2 : w4.cell? ⟨wr.heap.size, 2, none⟩ = some (.int .i64 kk) := cell_kx hhw4 (by show ¬ (W.heap.size ≤ wr.heap.size ∧ wr.heap.size ≠ wr.heap.size); omega) (by go_simp)
      have cw4_0_3 : w4.cell? ⟨wr.heap.size, 3, none⟩ = some (.slice pad m pcap) := cell_kx hhw4 (by show ¬ (W.heap.size ≤ wr.heap.size ∧ wr.heap.size ≠ wr.heap.size); omega) (by go_simp)
      have zw4_0 : wr.heap.size < w4.heap.size := World.block_lt_of_cell? _ _ cw4_0_0
      have gw4 : Gr W w4 := Kx.gr hhw4 gw3 (fun k hk => by have hk2 : W.heap.size ≤ k ∧ k ≠ wr.heap.size := hk; omega)
      have sw4 := hhw4.size
      clear gw3 zw3_0 cw3_0_0 cw3_0_1 cw3_0_2 cw3_0_3
      clear hhw4
      try simp only [Act.put, List.setIfInBounds_toArray, List.set_cons_zero, List.set_cons_succ]
      repeat (first | (refine Oe.wpO_skip (by simp only [List.getElem?_toArray, List.getElem?_cons_succ, List.getElem?_cons_zero] <;> rfl) rfl ?_; simp only [Act.put, List.setIfInBounds_toArray, List.set_cons_zero, List.set_cons_succ]) | (refine Oe.wpO_pure (by simp only [List.getElem?_toArray, List.getElem?_cons_succ, List.getElem?_cons_zero] <;> rfl) rfl ?_; apply Exists.intro; refine ⟨?_, ?_⟩; (· intro wx gx; have cx_0_0 : wx.cell? ⟨wr.heap.size, 0, none⟩ = some (.int .i64 1) := cell_kx gx (by show ¬ (W.heap.size ≤ wr.heap.size ∧ wr.heap.size ≠ wr.heap.size); omega) cw4_0_0; have cx_0_1 : wx.cell? ⟨wr.heap.size, 1, none⟩ = some (.int .i64 id) := cell_kx gx (by show ¬ (W.heap.size ≤ wr.heap.size ∧ wr.heap.size ≠ wr.heap.size); omega) cw4_0_1; have cx_0_2 : wx.cell? ⟨wr.heap.size, 2, none⟩ = some (.int .i64 kk) := cell_kx gx (by show ¬ (W.heap.size ≤ wr.heap.size ∧ wr.heap.size ≠ wr.heap.size); omega) cw4_0_2; have cx_0_3 : wx.cell? ⟨wr.heap.size, 3, none⟩ = some (.slice pad m pcap) := cell_kx gx (by show ¬ (W.heap.size ≤ wr.heap.size ∧ wr.heap.size ≠ wr.heap.size); omega) cw4_0_3; have zx_0 : wr.heap.size < wx.heap.size := World.block_lt_of_cell? _ _ cx_0_0; clear gx; all_goals (apply Oe.pAt_of_quiet; intro K hK; go_big_quiet_op; first | exact hK _ rfl | (apply Exists.intro; refine ⟨fun _ => ?_, ?_⟩; (· fail); exact hK _ rfl))); try simp only [Act.put, List.setIfInBounds_toArray, List.set_cons_zero, List.set_cons_succ]))
      have HF4 := Lib.hid (And.intro (fam_rm (HF2.out.1.to HG3.out) (rmAt_gr HF2.out.2.1 HG3.out) K4) R4)
      clear R4 K4
      refine Oe.wpO_nil (hKQ _ _ ?_)
      clear hKQ KQ
      go_wp2_with fail
      go_roundg (n - (i + 1))
      case measure => omega
      case rel => exact ⟨i + 1, M2, L4, by go_num, by omega, rfl, by omega, Lib.hid (by rw [HES.out]; exact HF4.out.1), Lib.hid (by rw [HES.out]; exact HF4.out.2)⟩
    · obtain rfl : i = n := by omega
      have ti : decide ((i : Int) < (i : Int)) = false := decide_eq_false (by omega)
      have ti2 : decide (i < i) = false := decide_eq_false (by omega)
      clear hk HF0 HF1 HR1
      go_wp2_with fail
      refine bodyPost_ret (v := .tuple #[.pointer (some ⟨W.heap.size, 0, none⟩), .pointer (some ⟨w0.heap.size, 0, none⟩), .bool true]) (by simp [results, Tryz.results20, go_sem, *]) rfl ?_
      exact ⟨W.heap.size, w0.heap.size, M, L, rfl, HF.out, HR.out⟩
end Go.Proofs.YtpomllpplpalkaaGreatDoor
/- stage's law: items and steps that come in; which are looked at -/
namespace Go.Proofs.YtpomllpplpalkaaGreatDoor
set_option linter.unusedVariables false
set_option linter.unusedSimpArgs false
open Go.ChangeShapes Go.WideShapes Go.ChangeAt Go.RowKit Go.Maps

section
variable {H : Type} {enc : TypeId × Value → H} {P : Program} {w : World} {base : Nat} {sp : Nat → Bool} {held : Bool} {r : Reach} {b0 : Nat}
theorem cells3i {a : Addr} {x0 x1 x2 : Value} (h : w.cells? base a 3 = some [x0, x1, x2]) : w.cell? (a.add 0) = some x0 ∧ w.cell? (a.add 1) = some x1 ∧ w.cell? (a.add 2) = some x2 := by
  unfold World.cells? at h
  split at h
  · rw [show List.range 3 = [0, 1, 2] from rfl] at h
    simp only [List.mapM_cons, List.mapM_nil] at h
    obtain ⟨y0, h0, h⟩ := Option.bind_eq_some_iff.1 h
    obtain ⟨t0, h, e0⟩ := Option.bind_eq_some_iff.1 h
    obtain ⟨y1, h1, h⟩ := Option.bind_eq_some_iff.1 h
    obtain ⟨t1, h, e1⟩ := Option.bind_eq_some_iff.1 h
    obtain ⟨y2, h2, h⟩ := Option.bind_eq_some_iff.1 h
    obtain ⟨t2, h, e2⟩ := Option.bind_eq_some_iff.1 h
    cases h; cases e2; cases e1; cases e0
    exact ⟨h0, h1, h2⟩
  · cases h
theorem open_items {tt ti to' s p u : TypeId} {I0 I1 O0 O1 G0 G1 : Field} {x : Value} {d : DataW H} {ps : List MemPlace} (htt : P.underlying tt = some (.slice ti)) (hsi : P.underlying ti = some (.struct #[I0, I1])) (hso : P.underlying to' = some (.struct #[O0, O1]))
    (hI0 : I0.type = u ∧ I0.offset = 0) (hI1 : I1.type = to' ∧ I1.offset = 1) (hO0 : O0.type = u ∧ O0.offset = 0) (hO1 : O1.type = s ∧ O1.offset = 1)
    (ci : P.cellsOf ti = 3) (co : P.cellsOf to' = 2) (cs' : P.cellsOf s = 1)
    (ht : P.underlying s = some (.slice p)) (hp : P.underlying p = some (.struct #[G0, G1])) (hu : P.underlying u = some (.int .i64))
    (hG0 : G0.type = u ∧ G0.offset = 0) (hG1 : G1.type = u ∧ G1.offset = 1) (cp : P.cellsOf p = 2) (cu : P.cellsOf u = 1)
    (hval : Value.okWide P w r b0 tt x) (hd : DataW.Trod enc P w base sp held tt x d ps) : ∃ (n : Nat) (D : Nat → MChg), Its w x n D := by
  have hform : (x = .slice none 0 0) ∨ ∃ a n c, x = .slice (some a) n c ∧ n ≤ c ∧ (c : Int) ≤ IntKind.i64.max ∧ a.spot = none := by
    simp only [Value.okWide, htt, Cell.okWide] at hval
    cases x <;> simp only [Cell.ok, htt] at hval <;> try exact hval.elim
    rename_i a n c
    cases a with
    | none =>
      left
      cases n <;> cases c <;> first | rfl | exact hval.elim
    | some a => right; exact ⟨a, n, c, rfl, hval.1, hval.2.1, hval.2.2.2.1⟩
  rcases hform with rfl | ⟨⟨b, off, sp0⟩, n, cap, rfl, h1, h2, h3⟩
  · exact ⟨0, fun _ => MChg.none, none, 0, 0, 0, rfl, Nat.le_refl _, by decide, fun h => absurd h (by omega), fun k h => absurd h (by omega)⟩
  cases h3
  have h2' : cap ≤ 9223372036854775807 := by
    have : IntKind.i64.max = 9223372036854775807 := rfl
    omega
  obtain ⟨fuel, hf⟩ := hd
  rcases Deep.open_slice htt hf with ⟨h, -⟩ | ⟨a, len, cap', m, q', D, Pl, hv, -, hl, -, hm, -, hel⟩
  · simp [Value.cells] at h
  · simp only [Value.cells, List.cons.injEq, Value.slice.injEq, Option.some.injEq, and_true] at hv
    obtain ⟨rfl, rfl, rfl⟩ := hv
    have hlm : n ≤ m := by rw [hm]; split <;> omega
    have key : ∀ k, k < n → ∃ c : MChg, w.cell? ⟨b, off + k * 3, none⟩ = some (.int .i64 c.id) ∧ w.cell? ⟨b, off + k * 3 + 1, none⟩ = some (.int .i64 c.k) ∧ w.cell? ⟨b, off + k * 3 + 2, none⟩ = some c.v ∧ Pts w c.v c.n c.X c.Y ∧ i64R c.id ∧ c.kd = 1 := fun k hk => by
      obtain ⟨cs0, hc, htr⟩ := hel k (by omega)
      rw [ci, addr_addm] at hc
      have hlen : cs0.length = 3 := (World.cells?_some hc).2.1
      obtain ⟨y2, y3, j2, -, -, t2, t3⟩ := trod_struct2 hsi htr
      match cs0, hlen with
      | [xb, xc, xe], _ =>
        rw [hI0.1, hI0.2, cu] at t2
        rw [hI1.1, hI1.2, co] at t3
        obtain ⟨z1, q1, -, hw1⟩ := DataW.trod_int hu t2
        simp at q1
        obtain ⟨y4, y5, j3, -, -, t4, t5⟩ := trod_struct2 hso t3
        rw [hO0.1, hO0.2, cu] at t4
        rw [hO1.1, hO1.2, cs'] at t5
        obtain ⟨z2, q2, -, -⟩ := DataW.trod_int hu t4
        simp at q2
        subst q1 q2
        have t6 : DataW.trod enc P w base sp held j3 s [xe] = some y5 := by simpa using t5
        obtain ⟨m', X, Y, hP⟩ := trod_ptsC ht hp hu hG0 hG1 cp cu t6
        obtain ⟨k0, k1, k2⟩ := cells3i hc
        rw [addr_addm] at k0 k1 k2
        exact ⟨⟨1, z1, z2, xe, m', X, Y⟩, k0, k1, k2, hP, bounds_i64 hw1, rfl⟩
    refine ⟨n, fun k => if h : k < n then (key k h).choose else MChg.none, some ⟨b, off, none⟩, cap, b, off, rfl, h1, h2', fun _ => rfl, fun k hk => ?_⟩
    simp only [dif_pos hk]
    exact (key k hk).choose_spec
theorem open_msteps {tt t to' s p u : TypeId} {F0 F1 F2 O0 O1 G0 G1 : Field} {x : Value} {d : DataW H} {ps : List MemPlace} (htt : P.underlying tt = some (.slice t)) (hs : P.underlying t = some (.struct #[F0, F1, F2])) (hso : P.underlying to' = some (.struct #[O0, O1]))
    (hF0 : F0.type = u ∧ F0.offset = 0) (hF1 : F1.type = u ∧ F1.offset = 1) (hF2 : F2.type = to' ∧ F2.offset = 2) (hO0 : O0.type = u ∧ O0.offset = 0) (hO1 : O1.type = s ∧ O1.offset = 1)
    (ct : P.cellsOf t = 4) (co : P.cellsOf to' = 2) (cs' : P.cellsOf s = 1)
    (ht : P.underlying s = some (.slice p)) (hp : P.underlying p = some (.struct #[G0, G1])) (hu : P.underlying u = some (.int .i64))
    (hG0 : G0.type = u ∧ G0.offset = 0) (hG1 : G1.type = u ∧ G1.offset = 1) (cp : P.cellsOf p = 2) (cu : P.cellsOf u = 1)
    (hval : Value.okWide P w r b0 tt x) (hd : DataW.Trod enc P w base sp held tt x d ps) : ∃ (n : Nat) (D : Nat → MChg), MChs w x n D := by
  have hform : (x = .slice none 0 0) ∨ ∃ a n c, x = .slice (some a) n c ∧ n ≤ c ∧ (c : Int) ≤ IntKind.i64.max ∧ a.spot = none := by
    simp only [Value.okWide, htt, Cell.okWide] at hval
    cases x <;> simp only [Cell.ok, htt] at hval <;> try exact hval.elim
    rename_i a n c
    cases a with
    | none =>
      left
      cases n <;> cases c <;> first | rfl | exact hval.elim
    | some a => right; exact ⟨a, n, c, rfl, hval.1, hval.2.1, hval.2.2.2.1⟩
  rcases hform with rfl | ⟨⟨b, off, sp0⟩, n, cap, rfl, h1, h2, h3⟩
  · exact ⟨0, fun _ => MChg.none, none, 0, 0, 0, rfl, Nat.le_refl _, by decide, fun h => absurd h (by omega), fun k h => absurd h (by omega)⟩
  cases h3
  have h2' : cap ≤ 9223372036854775807 := by
    have : IntKind.i64.max = 9223372036854775807 := rfl
    omega
  obtain ⟨fuel, hf⟩ := hd
  rcases Deep.open_slice htt hf with ⟨h, -⟩ | ⟨a, len, cap', m, q', D, Pl, hv, -, hl, -, hm, -, hel⟩
  · simp [Value.cells] at h
  · simp only [Value.cells, List.cons.injEq, Value.slice.injEq, Option.some.injEq, and_true] at hv
    obtain ⟨rfl, rfl, rfl⟩ := hv
    have hlm : n ≤ m := by rw [hm]; split <;> omega
    have key : ∀ k, k < n → ∃ c : MChg, MChgAt w b (off + k * 4) c := fun k hk => by
      obtain ⟨cs0, hc, htr⟩ := hel k (by omega)
      rw [ct, addr_addm] at hc
      have hlen : cs0.length = 4 := (World.cells?_some hc).2.1
      obtain ⟨y0, y1, y2, j, -, -, t0, t1, t2⟩ := Deep.trod_struct3 hs htr
      match cs0, hlen with
      | [xa, xb, xc, xe], _ =>
        rw [hF0.1, hF0.2, cu] at t0
        rw [hF1.1, hF1.2, cu] at t1
        rw [hF2.1, hF2.2, co] at t2
        obtain ⟨z0, q0, -, -⟩ := DataW.trod_int hu t0
        simp at q0
        obtain ⟨z1, q1, -, hw1⟩ := DataW.trod_int hu t1
        simp at q1
        obtain ⟨y4, y5, j3, -, -, t4, t5⟩ := trod_struct2 hso t2
        rw [hO0.1, hO0.2, cu] at t4
        rw [hO1.1, hO1.2, cs'] at t5
        obtain ⟨z2, q2, -, -⟩ := DataW.trod_int hu t4
        simp at q2
        subst q0 q1 q2
        have t6 : DataW.trod enc P w base sp held j3 s [xe] = some y5 := by simpa using t5
        obtain ⟨m', X, Y, hP⟩ := trod_ptsC ht hp hu hG0 hG1 cp cu t6
        obtain ⟨k0, k1, k2, k3⟩ := cells4m hc
        rw [addr_addm] at k0 k1 k2 k3
        exact ⟨⟨z0, z1, z2, xe, m', X, Y⟩, k0, k1, k2, k3, hP, bounds_i64 hw1⟩
    refine ⟨n, fun k => if h : k < n then (key k h).choose else MChg.none, some ⟨b, off, none⟩, cap, b, off, rfl, h1, h2', fun _ => rfl, fun k hk => ?_⟩
    simp only [dif_pos hk]
    exact (key k hk).choose_spec
end
def SumTo (n k : Nat) (f : Nat → Nat) (e : Ending) : Prop := ∃ r : Nat, e = .returned (.int .i64 (r : Nat)) ∧ r ≤ 1099511627776 ∧ (r ≤ 2000 → n ≤ 2000 ∧ ∀ i, i < k → f i ≤ 2000)
set_option maxHeartbeats 2000000 in
set_option maxRecDepth 100000 in
theorem c_SumN (n k B : Nat) (f : Nat → Nat) (hn : n ≤ 1099511627776) (hk : k ≤ 1000) (hf : ∀ i, i < k → f i ≤ 9223372036854775807) (W : World) (hc : ∀ i, i < k → W.cell? ⟨B, i, none⟩ = some (.int .i64 (f i : Nat))) :
    Calls Tryz.prog 68 #[.int .i64 n, .slice (some ⟨B, 0, none⟩) k k] W fun e w' => SumTo n k f e ∧ Gr W w' := by
  have HC := Lib.hid (And.intro hc hf)
  have hk9 : (k : Int) ≤ 1000 := by omega
  clear hc hf
  go_enter Tryz.func68, Tryz.ntmps68
  go_wp2_with fail
  go_loopg [0, 5] k (fun m a x wr => ∃ i t : Nat, a = .int .i64 t ∧ x = .int .i64 i ∧ i ≤ k ∧ m = k - i ∧ t ≤ 1099511627776 ∧ Hid (t ≤ 2000 → n ≤ 2000 ∧ ∀ j, j < i → f j ≤ 2000) ∧ Gr W wr)
  case atStart => exact ⟨0, n, rfl, rfl, Nat.zero_le _, by omega, hn, Lib.hid (fun h => ⟨h, fun j hj => absurd hj (Nat.not_lt_zero _)⟩), Below.refl _ _⟩
  case round =>
    obtain ⟨i, t, rfl, rfl, hi, hm, ht, HT, gwr⟩ := hrel
    by_cases hlt : i < k
    · have ti : decide ((i : Int) < (k : Int)) = true := decide_eq_true (by omega)
      have ti2 : decide (i < k) = true := decide_eq_true hlt
      have ti3 : (i : Int) < (k : Int) := by omega
      have hmm2 : k - (i + 1) < gk := by omega
      have p0 := cell_gr gwr (HC.out.1 i hlt)
      have hfi := HC.out.2 i hlt
      obtain ⟨m, em⟩ : ∃ m, m = f i := ⟨_, rfl⟩
      rw [← em] at p0 hfi
      have HM := Lib.hid em
      have zB := World.block_lt_of_cell? _ _ p0
      have t1 : decide ((1099511627776 : Int) < (t : Int)) = false := decide_eq_false (by omega)
      have hfi9 : (m : Int) ≤ 9223372036854775807 := by omega
      have e0 : wrap64 (1099511627776 - (t : Int)) = 1099511627776 - (t : Int) := IntWalk.wrap64_in _ (by omega)
      have e0b : IntKind.i64.wrap (1099511627776 - (t : Int)) = 1099511627776 - (t : Int) := IntWalk.i64_in _ (by omega)
      clear em hn
      by_cases h2 : 1099511627776 < t + m
      · have t2 : decide ((1099511627776 : Int) - (t : Int) < (m : Int)) = true := decide_eq_true (by omega)
        clear h2
        go_wp2_with fail
        go_ret
        exact ⟨⟨1099511627776, rfl, Nat.le_refl _, fun h => absurd h (by decide)⟩, gwr⟩
      · have t2 : decide ((1099511627776 : Int) - (t : Int) < (m : Int)) = false := decide_eq_false (by omega)
        obtain ⟨y, hy⟩ : ∃ y, y = t + m := ⟨_, rfl⟩
        have e2 : (t : Int) + (m : Int) = (y : Int) := by omega
        have htI : (t : Int) ≤ 1099511627776 := by omega
        have hmI : (m : Int) ≤ 1099511627776 := by omega
        have ht0 : (0 : Int) ≤ (t : Int) := by omega
        have hm0 : (0 : Int) ≤ (m : Int) := by omega
        have hy2 : y ≤ 1099511627776 := by omega
        have HT2 : Hid (y ≤ 2000 → n ≤ 2000 ∧ ∀ j, j < i + 1 → f j ≤ 2000) := Lib.hid (fun h => ⟨(HT.out (by omega)).1, fun j hj => by
          by_cases e : j = i
          · rw [e, ← HM.out]; omega
          · exact (HT.out (by omega)).2 j (by omega)⟩)
        clear h2 hy
        go_wp2_with fail
        go_roundg (k - (i + 1))
        case measure => omega
        case rel => exact ⟨i + 1, y, rfl, by go_num, by omega, rfl, hy2, HT2, gwr⟩
    · obtain rfl : i = k := by omega
      have ti : decide ((i : Int) < (i : Int)) = false := decide_eq_false (by omega)
      have ti2 : decide (i < i) = false := decide_eq_false (by omega)
      clear hm
      go_wp2_with fail
      go_ret
      exact ⟨⟨t, rfl, ht, HT.out⟩, gwr⟩
set_option maxHeartbeats 2000000 in
set_option maxRecDepth 100000 in
theorem c_Items {v : Value} {n : Nat} {D : Nat → MChg} (W : World) (h : Its W v n D) : Calls Tryz.prog 67 #[v, .int .i64 1000] W fun e w' => (∃ r : Nat, e = .returned (.int .i64 (r : Nat)) ∧ r ≤ 1099511627776) ∧ Gr W w' := by
  obtain ⟨ad, cap, B, off, rfl, h1, h2, h3, h4⟩ := h
  have HX := Lib.hid h4
  have HA := Lib.hid h3
  have hn9 : (n : Int) ≤ 9223372036854775807 := by omega
  clear h3 h4
  go_enter Tryz.func67, Tryz.ntmps67
  go_wp2_with fail
  go_at_call 68
  refine (c_SumN 0 1 _ (fun _ => n) (by decide) (by decide) (fun _ _ => by omega) _ (fun i hi => by (obtain rfl : i = 0 := (by omega)); go_simp)).mono ?_
  rintro e w1 ⟨⟨r, rfl, hr, -⟩, g1⟩
  have G1 : Gr W w1 := Gr.trans (by go_grown) g1
  clear g1
  go_wp2_with fail
  go_loopg [5, 6] n (fun m a x wr => ∃ i t : Nat, a = .int .i64 t ∧ x = .int .i64 i ∧ i ≤ n ∧ m = n - i ∧ t ≤ 1099511627776 ∧ Gr W wr)
  case atStart => exact ⟨0, r, rfl, rfl, Nat.zero_le _, by omega, hr, G1⟩
  case round =>
    obtain ⟨i, t, rfl, rfl, hi, hm, ht, gwr⟩ := hrel
    by_cases hlt : i < n
    · have ti : decide ((i : Int) < (n : Int)) = true := decide_eq_true (by omega)
      have ti2 : decide (i < n) = true := decide_eq_true hlt
      have ti3 : (i : Int) < (n : Int) := by omega
      have ti4 : (i : Int) < (cap : Int) := by omega
      have hmm2 : n - (i + 1) < gk := by omega
      by_cases h2 : t ≤ 1000
      · have t2 : decide ((t : Int) ≤ 1000) = true := decide_eq_true (by omega)
        have t3 : decide (t ≤ 1000) = true := decide_eq_true h2
        obtain rfl := HA.out (by omega)
        obtain ⟨-, -, q2, ⟨kad, kcap, KB, koff, ek, k1, k2, -, -⟩, -⟩ := HX.out i hlt
        rw [ek] at q2
        have p2 := cell_gr gwr q2
        have p2' : wr.cell? ⟨B, off + i * 3 + 1 + 1, none⟩ = _ := p2
        obtain ⟨m, em⟩ : ∃ m, m = (D i).n := ⟨_, rfl⟩
        rw [← em] at p2 p2' k1
        have zB := World.block_lt_of_cell? _ _ p2
        have AS := Lib.hid (fun (B' : Nat) w (hc : w.cell? ⟨B', 0, none⟩ = some (.int .i64 m)) => c_SumN t 1 B' (fun _ => m) ht (by decide) (fun _ _ => by omega) w (fun i hi => by (obtain rfl : i = 0 := (by omega)); exact hc))
        clear q2 ek em h2
        go_wp2_with fail
        go_at_call 68
        refine (AS.out _ _ (by go_simp)).mono ?_
        rintro e w2 ⟨⟨r2, rfl, hr2, -⟩, g2⟩
        have G2 : Gr W w2 := Gr.trans gwr (Gr.trans (by go_grown) g2)
        clear g2 p2 p2' zB
        go_wp2_with fail
        go_roundg (n - (i + 1))
        case measure => omega
        case rel => exact ⟨i + 1, r2, rfl, by go_num, by omega, rfl, hr2, G2⟩
      · have t2 : decide ((t : Int) ≤ 1000) = false := decide_eq_false (by omega)
        have t3 : decide (t ≤ 1000) = false := decide_eq_false h2
        clear h2
        go_wp2_with fail
        go_ret
        exact ⟨⟨t, rfl, ht⟩, gwr⟩
    · obtain rfl : i = n := by omega
      have ti : decide ((i : Int) < (i : Int)) = false := decide_eq_false (by omega)
      have ti2 : decide (i < i) = false := decide_eq_false (by omega)
      clear hm
      go_wp2_with fail
      go_ret
      exact ⟨⟨t, rfl, ht⟩, gwr⟩
def SmallS (nb nl : Nat) (D : Nat → MChg) (e : Ending) : Prop := ∃ b : Bool, e = .returned (.bool b) ∧ (b = true → nb ≤ 60 ∧ nl ≤ 100 ∧ ∀ i, i < nl → (D i).n ≤ 2000)
set_option maxHeartbeats 4000000 in
set_option maxRecDepth 100000 in
theorem st_small {v u : Value} {nb n : Nat} {Db D : Nat → MChg} (W : World) (hb : Its W v nb Db) (h : MChs W u n D) : Calls Tryz.prog 24 #[v, u] W fun e w' => SmallS nb n D e ∧ Gr W w' := by
  have AI := Lib.hid (c_Items W hb)
  obtain ⟨bd, bcap, _, _, rfl, hb1, hb2, -, -⟩ := hb
  obtain ⟨ad, cap, B, off, rfl, c1, c2, c3, c4⟩ := h
  have HX := Lib.hid c4
  have HA := Lib.hid c3
  have hn9 : (n : Int) ≤ 9223372036854775807 := by omega
  have hnb9 : (nb : Int) ≤ 9223372036854775807 := by omega
  clear c3 c4
  go_enter Tryz.func24, Tryz.ntmps24
  go_wp2_with fail
  go_at_call 67
  refine (AI.out).mono ?_
  rintro e w1 ⟨⟨r, rfl, hr⟩, g1⟩
  go_wp2_with fail
  go_loopg [5, 6] n (fun m a x wr => ∃ i t : Nat, a = .int .i64 t ∧ x = .int .i64 i ∧ i ≤ n ∧ m = n - i ∧ t ≤ 1099511627776 ∧ Hid (t ≤ 2000 → ∀ j, j < i → (D j).n ≤ 2000) ∧ Gr W wr)
  case atStart => exact ⟨0, r, rfl, rfl, Nat.zero_le _, by omega, hr, Lib.hid (fun _ j hj => absurd hj (Nat.not_lt_zero _)), g1⟩
  case round =>
    obtain ⟨i, t, rfl, rfl, hi, hm, ht, HT, gwr⟩ := hrel
    by_cases hlt : i < n
    · have ti : decide ((i : Int) < (n : Int)) = true := decide_eq_true (by omega)
      have ti2 : decide (i < n) = true := decide_eq_true hlt
      have ti3 : (i : Int) < (n : Int) := by omega
      have ti4 : (i : Int) < (cap : Int) := by omega
      have hmm2 : n - (i + 1) < gk := by omega
      obtain rfl := HA.out (by omega)
      obtain ⟨-, -, -, q3, ⟨kad, kcap, KB, koff, ek, k1, k2, -, -⟩, -⟩ := HX.out i hlt
      rw [ek] at q3
      have p3 := cell_gr gwr q3
      have p3' : wr.cell? ⟨B, off + i * 4 + 2 + 1, none⟩ = _ := p3
      obtain ⟨m, em⟩ : ∃ m, m = (D i).n := ⟨_, rfl⟩
      rw [← em] at p3 p3' k1
      have HM := Lib.hid em
      have zB := World.block_lt_of_cell? _ _ p3
      have AS := Lib.hid (fun (B' : Nat) w (h0 : w.cell? ⟨B', 0, none⟩ = some (.int .i64 m)) (h1 : w.cell? ⟨B', 1, none⟩ = some (.int .i64 1)) => c_SumN t 2 B' (fun i => if i = 0 then m else 1) ht (by decide) (fun i _ => by split <;> omega) w (fun i hi => by
        rcases (by omega : i = 0 ∨ i = 1) with rfl | rfl
        · exact h0
        · exact h1))
      clear q3 ek em
      go_wp2_with fail
      go_at_call 68
      refine (AS.out _ _ (by go_simp) (by go_simp)).mono ?_
      rintro e w2 ⟨⟨r2, rfl, hr2, hr3⟩, g2⟩
      have G2 : Gr W w2 := Gr.trans gwr (Gr.trans (by go_grown) g2)
      have HT2 : Hid (r2 ≤ 2000 → ∀ j, j < i + 1 → (D j).n ≤ 2000) := Lib.hid (fun h j hj => by
        obtain ⟨h1, h2⟩ := hr3 h
        by_cases e : j = i
        · rw [e, ← HM.out]; exact h2 0 (by decide)
        · exact HT.out h1 j (by omega))
      clear g2 p3 p3' zB hr3
      go_wp2_with fail
      go_roundg (n - (i + 1))
      case measure => omega
      case rel => exact ⟨i + 1, r2, rfl, by go_num, by omega, rfl, hr2, HT2, G2⟩
    · obtain rfl : i = n := by omega
      have ti : decide ((i : Int) < (i : Int)) = false := decide_eq_false (by omega)
      have ti2 : decide (i < i) = false := decide_eq_false (by omega)
      clear hm
      by_cases h1 : t ≤ 2000
      · have t1 : decide ((t : Int) ≤ 2000) = true := decide_eq_true (by omega)
        have t1b : decide (t ≤ 2000) = true := decide_eq_true h1
        by_cases h2 : i ≤ 100
        · have t2 : decide ((i : Int) ≤ 100) = true := decide_eq_true (by omega)
          have t2b : decide (i ≤ 100) = true := decide_eq_true h2
          by_cases h3 : nb ≤ 60
          · have t3 : decide ((nb : Int) ≤ 60) = true := decide_eq_true (by omega)
            have t3b : decide (nb ≤ 60) = true := decide_eq_true h3
            have HH := Lib.hid (And.intro h1 (And.intro h2 h3))
            clear h1 h2 h3
            go_wp2_with fail
            go_ret
            exact ⟨⟨true, rfl, fun _ => ⟨HH.out.2.2, HH.out.2.1, HT.out HH.out.1⟩⟩, gwr⟩
          · have t3 : decide ((nb : Int) ≤ 60) = false := decide_eq_false (by omega)
            have t3b : decide (nb ≤ 60) = false := decide_eq_false h3
            clear h1 h2 h3
            go_wp2_with fail
            go_ret
            exact ⟨⟨false, rfl, fun h => (by cases h)⟩, gwr⟩
        · have t2 : decide ((i : Int) ≤ 100) = false := decide_eq_false (by omega)
          have t2b : decide (i ≤ 100) = false := decide_eq_false h2
          clear h1 h2
          go_wp2_with fail
          go_ret
          exact ⟨⟨false, rfl, fun h => (by cases h)⟩, gwr⟩
      · have t1 : decide ((t : Int) ≤ 2000) = false := decide_eq_false (by omega)
        have t1b : decide (t ≤ 2000) = false := decide_eq_false h1
        clear h1
        go_wp2_with fail
        go_ret
        exact ⟨⟨false, rfl, fun h => (by cases h)⟩, gwr⟩
end Go.Proofs.YtpomllpplpalkaaGreatDoor
