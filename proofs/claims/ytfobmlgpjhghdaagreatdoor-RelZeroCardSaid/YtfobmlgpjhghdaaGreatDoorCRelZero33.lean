/- What RelZero leans on: Ue Uf Ug -/
import Derived.Test.YtfobmlgpjhghdaaGreatDoorCRelZero31
namespace Go.Proofs.YtfobmlgpjhghdaaGreatDoor
set_option linter.unusedVariables false
set_option linter.unusedSimpArgs false
open Go.ChangeShapes Go.WideShapes Go.ChangeAt Go.RowKit
def NF (v : Value) : Prop := v = .nilIface ∨ ∃ B, v = .iface 84 (.pointer (some ⟨B, 0, none⟩))
theorem nf_nil : NF .nilIface := Or.inl rfl
theorem nf_f (B : Nat) : NF (.iface 84 (.pointer (some ⟨B, 0, none⟩))) := Or.inr ⟨B, rfl⟩
theorem werr_nf {op : ByteArray} {w : World} {v : Value} {id : Int} {k : Nat} (h : WErr op w v id k) : NF v ∧ (v = .nilIface ↔ k = 0) := by
  rcases h with ⟨rfl, rfl⟩ | ⟨B, u, d, rfl, h2, -⟩
  · exact ⟨Or.inl rfl, by simp⟩
  · exact ⟨Or.inr ⟨B, rfl⟩, by constructor; intro h; cases h; intro h; omega⟩
set_option maxHeartbeats 4000000 in
set_option maxRecDepth 100000 in
theorem c_allowed {D n cap : Nat} {e : Nat → Value} (W : World) (hE : ErrT W) (hn : n ≤ 2) (hp : ∀ k, k < n → W.cell? ⟨D, k, none⟩ = some (e k)) (he : ∀ k, k < n → NF (e k)) (hD : D < W.heap.size) (hc : n ≤ cap) (z : Bool) (hz : z = true ↔ ∀ k, k < n → e k = .nilIface) :
    Calls Tryz.prog 39 #[.slice (some ⟨D, 0, none⟩) n cap] W fun e w' => e = .returned (.bool z) ∧ Gr W w' := by
  have hn9 : (n : Int) ≤ 2 := by omega
  have HP := Lib.hid hp
  have HE := Lib.hid he
  have HZ := Lib.hid hz
  have HT := Lib.hid hE
  clear hp he hz hE
  go_enter Tryz.func39, Tryz.ntmps39
  go_wp2_with fail
  go_loopg [8] n (fun k x wr => ∃ i : Nat, x = .int .i64 i ∧ i ≤ n ∧ k = n - i ∧ (∀ j, j < i → e j = .nilIface) ∧ Gr W wr)
  case atStart => exact ⟨0, rfl, Nat.zero_le _, by omega, fun j hj => absurd hj (by omega), by go_grown⟩
  case round =>
    obtain ⟨i, rfl, hi, hk, hN, hg⟩ := hrel
    have hgs := hg.size
    have HN := Lib.hid hN
    clear hN
    by_cases hin : i < n
    · have ti : decide ((i : Int) < (n : Int)) = true := decide_eq_true (by omega)
      have ti2 : decide (i < n) = true := decide_eq_true hin
      have ti3 : (i : Int) < (n : Int) := by omega
      have hmm : n - (i + 1) < gk := by omega
      have r0 := cell_gr hg (HP.out i hin)
      have hnf := HE.out i hin
      obtain ⟨x, hx⟩ : ∃ x, x = e i := ⟨_, rfl⟩
      have HX := Lib.hid hx
      rw [← hx] at r0 hnf
      have hDw : D < wr.heap.size := by omega
      clear hk hx
      rcases hnf with rfl | ⟨C, rfl⟩
      · go_wp2_with fail
        go_at_call 61
        refine (c_As_nil _ _).mono ?_
        rintro e w1 ⟨rfl, g1⟩
        have G1 : Gr W w1 := Gr.trans (by go_grown) g1
        clear g1
        go_wp2_with fail
        go_roundg (n - (i + 1))
        case measure => exact hmm
        case rel => exact ⟨i + 1, by go_num, by omega, rfl, fun j hj => (by rcases Nat.lt_succ_iff_lt_or_eq.1 hj with h | rfl; exact HN.out j h; exact HX.out.symm), by have gs := G1.size; go_grown⟩
      · have A := as_hit ⟨C, 0, none⟩ ⟨wr.heap.size, 0, none⟩ (.pointer none) (wr.alloc (.cells #[.pointer none] 84)) (errT_gr HT.out (by go_grown)) (by go_simp) (by go_simp)
        have H2 := Lib.hid A
        clear A
        go_wp2_with fail
        go_at_call 61
        refine H2.out.mono ?_
        rintro e w2 ⟨rfl, wx, gx, rfl⟩
        have gWx : Gr W wx := Gr.trans (by go_grown) gx
        have hzf : z = false := by
          cases hzz : z
          · rfl
          · have := (HZ.out.1 hzz) i hin
            rw [← HX.out] at this
            cases this
        subst hzf
        go_wp2_with fail
        go_ret
        exact ⟨rfl, by have gg := gWx; have gs := gg.size; go_grown⟩
    · obtain rfl : i = n := by omega
      have ti : decide ((i : Int) < (i : Int)) = false := decide_eq_false (by omega)
      have ti2 : decide (i < i) = false := decide_eq_false (by omega)
      have hzt : z = true := HZ.out.2 HN.out
      subst hzt
      go_wp2_with fail
      go_ret
      exact ⟨rfl, by go_grown⟩
set_option maxHeartbeats 4000000 in
set_option maxRecDepth 100000 in
theorem c_rmb_no {n : Nat} {X Y : Nat → Int} {v : Value} (lx ly hx hy : Int) (W : World) (h : Pts W v n X Y) (hn : n ≤ 64) (hm : arM n X Y lx ly hx hy = false) :
    Calls Tryz.prog 104 #[v, .agg #[.int .i64 lx, .int .i64 ly, .int .i64 hx, .int .i64 hy]] W fun e w' => e = .returned (.bool false) ∧ Gr W w' := by
  have A1 := fun w' (g : Gr W w') => c_AroundN w' (pts_gr h g) (by omega)
  have A2 := fun w' => c_Meets (mnN X n) (mnN Y n) (mxN X n) (mxN Y n) lx ly hx hy w'
  unfold arM at hm
  rw [hm] at A2
  generalize mnN X n = m1 at A1 A2
  generalize mnN Y n = m2 at A1 A2
  generalize mxN X n = m3 at A1 A2
  generalize mxN Y n = m4 at A1 A2
  obtain ⟨ad, cap, B, off, rfl, -⟩ := h
  have H1 := Lib.hid A1
  have H2 := Lib.hid A2
  clear A1 A2
  clear hm
  go_enter Tryz.func104, Tryz.ntmps104
  go_wp2_with fail
  go_wp2_with fail
  refine wp_region_spread (by kernel_rfl) (by kernel_rfl) ?_
  try simp only [List.append]
  repeat (first | go_big_quiet_skip | (go_big_quiet_want; go_big_quiet_op; (first | go_big_quiet_on | (apply Exists.intro; refine ⟨fun _ => ?_, ?_⟩; (· (first | (go_at_call 62; first | ((with_reducible refine ((H1.out _ (Gr.trans (by go_grown) (gr_spread _ _)))).mono ?_); rintro e w' ⟨rfl, hg⟩; exact ⟨rfl, spread_gr hg⟩)) | (go_at_call 87; first | ((with_reducible refine ((H2.out _)).mono ?_); rintro e w' ⟨rfl, hg⟩; exact ⟨rfl, spread_gr hg⟩)))); go_big_quiet_on))))
  refine wpQuiet_nil ?_
  intro w1 hhw1
  have hw1 := Hd.gr_of_spread hhw1
  have cw1_1_0 := cg hw1 (W.heap.size + 1) 0 (.bool false) (by go_simp)
  have fw1_1_0 := fq hw1 (W.heap.size + 1) 0 (.bool false) (by go_simp) (by go_simp)
  have gw1 : Gr W w1 := Gr.trans (by go_grown) hw1
  clear hw1 hhw1
  go_wp2_with fail
  go_wp2_with fail
  refine bodyPost_ret (v := .bool false) (by simp [results, Tryz.results104, go_sem, *]) rfl ⟨rfl, by go_grown⟩
end Go.Proofs.YtfobmlgpjhghdaaGreatDoor
namespace Go.Proofs.YtfobmlgpjhghdaaGreatDoor
set_option linter.unusedVariables false
set_option linter.unusedSimpArgs false
open Go.ChangeShapes Go.WideShapes Go.ChangeAt Go.RowKit
def meV (lx ly hx hy mx my nx ny : Int) : Bool := boxB lx ly hx hy && boxB mx my nx ny && decide (lx ≤ nx) && decide (mx ≤ hx) && decide (ly ≤ ny) && decide (my ≤ hy)
def inV (lx ly hx hy mx my nx ny : Int) : Bool := boxB lx ly hx hy && boxB mx my nx ny && inB mx my nx ny lx ly && inB mx my nx ny hx hy
def rmV (n : Nat) (X Y : Nat → Int) (lx ly hx hy : Int) : Bool := arM n X Y lx ly hx hy && rmbV n X Y lx ly hx hy
theorem c_rmbA {n : Nat} {X Y : Nat → Int} {v : Value} (lx ly hx hy : Int) (W : World) (h : Pts W v n X Y) (h0 : (Rg.ringC n X Y).1 = 0) : Calls Tryz.prog 104 #[v, .agg #[.int .i64 lx, .int .i64 ly, .int .i64 hx, .int .i64 hy]] W fun e w' => e = .returned (.bool (rmV n X Y lx ly hx hy)) ∧ Gr W w' := by
  unfold rmV
  cases hm : arM n X Y lx ly hx hy
  · exact c_rmb_no lx ly hx hy W h (by have := (Rg.ringC_ok h0).1; omega) hm
  · rw [Bool.true_and]; exact c_rmb' W h h0 hm
def FrTo (W : World) (k : Int) (v : Value) (lx ly hx hy : Int) : Prop := (k = 1 ∨ k = 2 ∨ k = 3) ∧ (∃ ad n cap, v = .slice ad n cap) ∧ ∀ w, Gr W w → Calls Tryz.prog 36 #[.agg #[.int .i64 k, v]] w fun e w' => e = .returned (.agg #[.int .i64 lx, .int .i64 ly, .int .i64 hx, .int .i64 hy]) ∧ Gr w w'
theorem frTo_gr {a b : World} {k : Int} {v : Value} {lx ly hx hy : Int} (h : FrTo a k v lx ly hx hy) (g : Gr a b) : FrTo b k v lx ly hx hy := ⟨h.1, h.2.1, fun w g' => h.2.2 w (Gr.trans g g')⟩
section
variable {k : Int} {v : Value} {lx ly hx hy : Int}
set_option maxHeartbeats 2000000 in
set_option maxRecDepth 100000 in
theorem c_meetsBoxB (mx my nx ny : Int) (W : World) (h : FrTo W k v lx ly hx hy) : Calls Tryz.prog 68 #[.agg #[.int .i64 k, v], .agg #[.int .i64 mx, .int .i64 my, .int .i64 nx, .int .i64 ny]] W fun e w' => e = .returned (.bool (meV lx ly hx hy mx my nx ny)) ∧ Gr W w' := by
  have A1 := fun w => c_Meets lx ly hx hy mx my nx ny w
  unfold meV
  generalize (boxB lx ly hx hy && boxB mx my nx ny && decide (lx ≤ nx) && decide (mx ≤ hx) && decide (ly ≤ ny) && decide (my ≤ hy)) = z at A1 ⊢
  obtain ⟨hk, ⟨ad, n, cap, rfl⟩, A2⟩ := h
  have k4 : (k == 4) = false := by simp; omega
  have H1 := Lib.hid A1
  have H2 := Lib.hid A2
  clear A1 A2
  clear hk
  go_enter Tryz.func68, Tryz.ntmps68
  go_wp2_with fail
  go_wp2_with fail
  refine wp_region_spread (by kernel_rfl) (by kernel_rfl) ?_
  try simp only [List.append]
  repeat (first | go_big_quiet_skip | (go_big_quiet_want; go_big_quiet_op; (first | go_big_quiet_on | (apply Exists.intro; refine ⟨fun _ => ?_, ?_⟩; (· (first | (go_at_call 36; first | ((with_reducible refine ((H2.out _ (Gr.trans (by go_grown) (gr_spread _ _)))).mono ?_); rintro e w' ⟨rfl, hg⟩; exact ⟨rfl, spread_gr hg⟩)) | (go_at_call 87; first | ((with_reducible refine ((H1.out _)).mono ?_); rintro e w' ⟨rfl, hg⟩; exact ⟨rfl, spread_gr hg⟩)))); go_big_quiet_on))))
  refine wpQuiet_nil ?_
  intro w1 hhw1
  have hw1 := Hd.gr_of_spread hhw1
  have gw1 : Gr W w1 := Gr.trans (by go_grown) hw1
  clear hw1 hhw1
  go_wp2_with fail
  go_ret
  exact ⟨rfl, by have gg := gw1; have gs := gg.size; go_grown⟩
set_option maxHeartbeats 2000000 in
set_option maxRecDepth 100000 in
theorem c_meetsRingB {m : Nat} {P Q : Nat → Int} {u : Value} (W : World) (h : FrTo W k v lx ly hx hy) (hu : Pts W u m P Q) (h0 : (Rg.ringC m P Q).1 = 0) : Calls Tryz.prog 69 #[.agg #[.int .i64 k, v], u] W fun e w' => e = .returned (.bool (rmV m P Q lx ly hx hy)) ∧ Gr W w' := by
  have A1 := fun w (g : Gr W w) => c_rmbA lx ly hx hy w (pts_gr hu g) h0
  generalize rmV m P Q lx ly hx hy = z at A1 ⊢
  obtain ⟨hk, ⟨ad, n, cap, rfl⟩, A2⟩ := h
  obtain ⟨bd, bcap, _, _, rfl, -⟩ := hu
  have k4 : (k == 4) = false := by simp; omega
  have H1 := Lib.hid A1
  have H2 := Lib.hid A2
  clear A1 A2
  clear hk
  go_enter Tryz.func69, Tryz.ntmps69
  go_wp2_with fail
  go_at_call 36
  refine ((H2.out _ (by go_grown))).mono ?_
  rintro e w1 ⟨rfl, hw1⟩
  have gw1 : Gr W w1 := Gr.trans (by go_grown) hw1
  clear hw1
  go_wp2_with fail
  go_at_call 104
  refine ((H1.out _ (by have gg := gw1; have gs := gg.size; go_grown))).mono ?_
  rintro e w2 ⟨rfl, hw2⟩
  have gw2 : Gr W w2 := Gr.trans (by have gg := gw1; have gs := gg.size; go_grown) hw2
  clear hw2 gw1
  go_wp2_with fail
  go_ret
  exact ⟨rfl, gw2⟩
def msV (lx ly hx hy kq qlx qly qhx qhy : Int) (m : Nat) (P Q : Nat → Int) : Bool :=
  if kq = 2 then inV lx ly hx hy qlx qly qhx qhy else if kq = 3 then meV lx ly hx hy qlx qly qlx qly else if kq = 4 then rmV m P Q lx ly hx hy else meV lx ly hx hy qlx qly qhx qhy
set_option maxHeartbeats 4000000 in
set_option maxRecDepth 100000 in
theorem c_MatchesB {m : Nat} {P Q : Nat → Int} {u : Value} (kq qlx qly qhx qhy : Int) (W : World) (h : FrTo W k v lx ly hx hy) (hu : Pts W u m P Q) (h0 : kq = 4 → (Rg.ringC m P Q).1 = 0) :
    Calls Tryz.prog 41 #[.agg #[.int .i64 k, v], qryV kq qlx qly qhx qhy u] W fun e w' => e = .returned (.bool (msV lx ly hx hy kq qlx qly qhx qhy m P Q)) ∧ Gr W w' := by
  unfold msV
  by_cases k2 : kq = 2
  · rw [if_pos k2]
    subst k2
    have A1 := fun w => c_Inside lx ly hx hy qlx qly qhx qhy w
    unfold inV
    generalize (boxB lx ly hx hy && boxB qlx qly qhx qhy && inB qlx qly qhx qhy lx ly && inB qlx qly qhx qhy hx hy) = z at A1 ⊢
    obtain ⟨hk, ⟨ad, n, cap, rfl⟩, A2⟩ := h
    obtain ⟨bd, bcap, _, _, rfl, -⟩ := hu
    have H1 := Lib.hid A1
    have H2 := Lib.hid A2
    clear A1 A2
    clear hk h0
    go_enter Tryz.func41, Tryz.ntmps41
    go_wp2_with fail
    go_wp2_with fail
    refine wp_region_spread (by kernel_rfl) (by kernel_rfl) ?_
    try simp only [List.append]
    repeat (first | go_big_quiet_skip | (go_big_quiet_want; go_big_quiet_op; (first | go_big_quiet_on | (apply Exists.intro; refine ⟨fun _ => ?_, ?_⟩; (· (first | (go_at_call 36; first | ((with_reducible refine ((H2.out _ (Gr.trans (by go_grown) (gr_spread _ _)))).mono ?_); rintro e w' ⟨rfl, hg⟩; exact ⟨rfl, spread_gr hg⟩)) | (go_at_call 67; first | ((with_reducible refine ((H1.out _)).mono ?_); rintro e w' ⟨rfl, hg⟩; exact ⟨rfl, spread_gr hg⟩)))); go_big_quiet_on))))
    refine wpQuiet_nil ?_
    intro w1 hhw1
    have hw1 := Hd.gr_of_spread hhw1
    have gw1 : Gr W w1 := Gr.trans (by go_grown) hw1
    clear hw1 hhw1
    go_wp2_with fail
    go_ret
    exact ⟨rfl, by have gg := gw1; have gs := gg.size; go_grown⟩
  rw [if_neg k2]
  have b2 : (kq == 2) = false := by simp; omega
  by_cases k3 : kq = 3
  · rw [if_pos k3]
    subst k3
    have A1 := fun w (g : Gr W w) => c_meetsBoxB qlx qly qlx qly w (frTo_gr h g)
    generalize meV lx ly hx hy qlx qly qlx qly = z at A1 ⊢
    obtain ⟨hk, ⟨ad, n, cap, rfl⟩, A2⟩ := h
    obtain ⟨bd, bcap, _, _, rfl, -⟩ := hu
    have H1 := Lib.hid A1
    have H2 := Lib.hid A2
    clear A1 A2
    clear hk h0
    go_enter Tryz.func41, Tryz.ntmps41
    go_wp2_with fail
    go_at_call 68
    refine ((H1.out _ (by go_grown))).mono ?_
    rintro e w1 ⟨rfl, hw1⟩
    have gw1 : Gr W w1 := Gr.trans (by go_grown) hw1
    clear hw1
    go_wp2_with fail
    go_ret
    exact ⟨rfl, gw1⟩
  rw [if_neg k3]
  have b3 : (kq == 3) = false := by simp; omega
  by_cases k4 : kq = 4
  · rw [if_pos k4]
    have A1 := fun w (g : Gr W w) => c_meetsRingB w (frTo_gr h g) (pts_gr hu g) (h0 k4)
    subst k4
    generalize rmV m P Q lx ly hx hy = z at A1 ⊢
    obtain ⟨hk, ⟨ad, n, cap, rfl⟩, A2⟩ := h
    obtain ⟨bd, bcap, _, _, rfl, -⟩ := hu
    have H1 := Lib.hid A1
    have H2 := Lib.hid A2
    clear A1 A2
    clear hk h0
    go_enter Tryz.func41, Tryz.ntmps41
    go_wp2_with fail
    go_at_call 69
    refine ((H1.out _ (by go_grown))).mono ?_
    rintro e w1 ⟨rfl, hw1⟩
    have gw1 : Gr W w1 := Gr.trans (by go_grown) hw1
    clear hw1
    go_wp2_with fail
    go_ret
    exact ⟨rfl, gw1⟩
  rw [if_neg k4]
  have b4 : (kq == 4) = false := by simp; omega
  have A1 := fun w (g : Gr W w) => c_meetsBoxB qlx qly qhx qhy w (frTo_gr h g)
  generalize meV lx ly hx hy qlx qly qhx qhy = z at A1 ⊢
  obtain ⟨hk, ⟨ad, n, cap, rfl⟩, A2⟩ := h
  obtain ⟨bd, bcap, _, _, rfl, -⟩ := hu
  have H1 := Lib.hid A1
  have H2 := Lib.hid A2
  clear A1 A2
  clear hk h0
  go_enter Tryz.func41, Tryz.ntmps41
  go_wp2_with fail
  go_at_call 68
  refine ((H1.out _ (by go_grown))).mono ?_
  rintro e w1 ⟨rfl, hw1⟩
  have gw1 : Gr W w1 := Gr.trans (by go_grown) hw1
  clear hw1
  go_wp2_with fail
  go_ret
  exact ⟨rfl, gw1⟩
set_option maxHeartbeats 4000000 in
set_option maxRecDepth 100000 in
theorem match_core (kq qlx qly qhx qhy : Int) (ad bd : Option Addr) (n cap m bcap c d : Nat) (z : Bool) (W : World) (hE : ErrT W)
    (A1 : ∀ w, Gr W w → Calls Tryz.prog 34 #[.agg #[.int .i64 k, .slice ad n cap]] w fun e w' => ∃ x, e = .returned x ∧ WErr objectS w' x k c ∧ Gr w w')
    (A2 : ∀ w, Gr W w → Calls Tryz.prog 40 #[qryV kq qlx qly qhx qhy (.slice bd m bcap)] w fun e w' => ∃ x, e = .returned x ∧ WErr queryS w' x kq d ∧ Gr w w')
    (A3 : c = 0 → d = 0 → ∀ w, Gr W w → Calls Tryz.prog 41 #[.agg #[.int .i64 k, .slice ad n cap], qryV kq qlx qly qhx qhy (.slice bd m bcap)] w fun e w' => e = .returned (.bool z) ∧ Gr w w') :
    Calls Tryz.prog 13 #[.agg #[.int .i64 k, .slice ad n cap], qryV kq qlx qly qhx qhy (.slice bd m bcap)] W fun e w' => e = .returned (.bool (decide (c = 0) && decide (d = 0) && z)) ∧ Gr W w' := by
  have B1 : ∀ w, Gr W w → Calls Tryz.prog 34 #[.agg #[.int .i64 k, .slice ad n cap]] w fun e w' => ∃ x, e = .returned x ∧ (NF x ∧ (x = .nilIface ↔ c = 0)) ∧ Gr w w' := fun w g => (A1 w g).mono (by
    rintro e w' ⟨x, rfl, hx, g'⟩
    exact ⟨x, rfl, werr_nf hx, g'⟩)
  have B2 : ∀ w, Gr W w → Calls Tryz.prog 40 #[qryV kq qlx qly qhx qhy (.slice bd m bcap)] w fun e w' => ∃ x, e = .returned x ∧ (NF x ∧ (x = .nilIface ↔ d = 0)) ∧ Gr w w' := fun w g => (A2 w g).mono (by
    rintro e w' ⟨x, rfl, hx, g'⟩
    exact ⟨x, rfl, werr_nf hx, g'⟩)
  have B4 : ∀ (w : World) (D : Nat) (x y : Value) (q : Bool), Gr W w → w.cell? ⟨D, 0, none⟩ = some x → w.cell? ⟨D, 1, none⟩ = some y → NF x → NF y → (q = true ↔ x = .nilIface ∧ y = .nilIface) → Calls Tryz.prog 39 #[.slice (some ⟨D, 0, none⟩) 2 2] w fun e w' => e = .returned (.bool q) ∧ Gr w w' := fun w D x y q g h0 h1 n0 n1 hq =>
    c_allowed (D := D) (n := 2) (cap := 2) (e := fun k => if k = 0 then x else y) w (errT_gr hE g) (by omega) (fun k hk => by match k, hk with | 0, _ => exact h0 | 1, _ => exact h1) (fun k hk => by match k, hk with | 0, _ => exact n0 | 1, _ => exact n1) (World.block_lt_of_cell? _ _ h0) (Nat.le_refl _) q (by
      rw [hq]
      constructor
      · rintro ⟨a, b⟩ k hk
        match k, hk with
        | 0, _ => exact a
        | 1, _ => exact b
      · intro h
        exact ⟨h 0 (by omega), h 1 (by omega)⟩)
  clear A1 A2 hE
  by_cases hc : c = 0
  · rw [decide_eq_true hc, Bool.true_and]
    by_cases hd : d = 0
    · rw [decide_eq_true hd, Bool.true_and]
      have C3 := A3 hc hd
      have C1 : ∀ w, Gr W w → Calls Tryz.prog 34 #[.agg #[.int .i64 k, .slice ad n cap]] w fun e w' => e = .returned .nilIface ∧ Gr w w' := fun w g => (B1 w g).mono (by
        rintro e w' ⟨x, rfl, ⟨-, hx⟩, g'⟩
        obtain rfl := hx.2 hc
        exact ⟨rfl, g'⟩)
      have C2 : ∀ w, Gr W w → Calls Tryz.prog 40 #[qryV kq qlx qly qhx qhy (.slice bd m bcap)] w fun e w' => e = .returned .nilIface ∧ Gr w w' := fun w g => (B2 w g).mono (by
        rintro e w' ⟨x, rfl, ⟨-, hx⟩, g'⟩
        obtain rfl := hx.2 hd
        exact ⟨rfl, g'⟩)
      have H1 := Lib.hid C1
      have H2 := Lib.hid C2
      have H3 := Lib.hid C3
      have H4 := Lib.hid B4
      clear C1 C2 C3 B4
      clear A3 B1 B2
      go_enter Tryz.func13, Tryz.ntmps13
      go_wp2_with fail
      try simp only [List.append]
      refine Od.wp_region_ord [(0, false), (2, false), (1, true), (3, true), (4, true), (5, true), (6, false), (7, false), (8, false), (9, true), (10, false), (11, false)] (by kernel_rfl) (by kernel_rfl) ?_
      intro w0 hw0 KQ hKQ
      have cw0_0_0 := ci hw0 (W.heap.size) 0 k (by go_simp)
      have cw0_0_1 := cg hw0 (W.heap.size) 1 (.slice ad n cap) (by go_simp)
      have cw0_1_0 := ci hw0 (W.heap.size + 1) 0 kq (by go_simp)
      have cw0_1_1 := ci hw0 (W.heap.size + 1) 1 qlx (by go_simp)
      have cw0_1_2 := ci hw0 (W.heap.size + 1) 2 qly (by go_simp)
      have cw0_1_3 := ci hw0 (W.heap.size + 1) 3 qhx (by go_simp)
      have cw0_1_4 := ci hw0 (W.heap.size + 1) 4 qhy (by go_simp)
      have cw0_1_5 := cg hw0 (W.heap.size + 1) 5 (.slice bd m bcap) (by go_simp)
      have gw0 : Gr W w0 := Gr.trans (by go_grown) hw0
      skip
      clear hw0
      repeat (first | (refine Od.wpO_skip (by simp only [List.getElem?_toArray, List.getElem?_cons_succ, List.getElem?_cons_zero] <;> rfl) rfl ?_; simp only [Act.put, List.setIfInBounds_toArray, List.set_cons_zero, List.set_cons_succ]) | (refine Od.wpO_pure (by simp only [List.getElem?_toArray, List.getElem?_cons_succ, List.getElem?_cons_zero] <;> rfl) rfl ?_; apply Exists.intro; refine ⟨?_, ?_⟩; (· intro wx gx; obtain ⟨mx, rfl⟩ := spread_of_gr gx; clear gx; all_goals (apply Od.pAt_of_quiet; intro K hK; go_big_quiet_op; first | exact hK _ rfl | (apply Exists.intro; refine ⟨fun _ => ?_, ?_⟩; (· fail); exact hK _ rfl))); try simp only [Act.put, List.setIfInBounds_toArray, List.set_cons_zero, List.set_cons_succ]))
      refine Od.wpO_call (by simp only [List.getElem?_toArray, List.getElem?_cons_succ, List.getElem?_cons_zero] <;> rfl) rfl ?_
      intro QS hQS
      go_wp2_with fail
      go_at_call 34
      (with_reducible refine ((H1.out _ gw0)).mono ?_)
      rintro e w1 ⟨rfl, hw1⟩
      go_wp2_with fail
      apply Exists.intro
      refine ⟨?_, hw1, ?_⟩
      · simp only [Act.put, List.setIfInBounds_toArray, List.set_cons_zero, List.set_cons_succ]; rfl
      have cw1_0_0 := ci hw1 (W.heap.size) 0 k (by go_simp)
      have cw1_0_1 := cg hw1 (W.heap.size) 1 (.slice ad n cap) (by go_simp)
      have cw1_1_0 := ci hw1 (W.heap.size + 1) 0 kq (by go_simp)
      have cw1_1_1 := ci hw1 (W.heap.size + 1) 1 qlx (by go_simp)
      have cw1_1_2 := ci hw1 (W.heap.size + 1) 2 qly (by go_simp)
      have cw1_1_3 := ci hw1 (W.heap.size + 1) 3 qhx (by go_simp)
      have cw1_1_4 := ci hw1 (W.heap.size + 1) 4 qhy (by go_simp)
      have cw1_1_5 := cg hw1 (W.heap.size + 1) 5 (.slice bd m bcap) (by go_simp)
      have gw1 : Gr W w1 := Gr.trans (by have gg := gw0; have gs := gg.size; go_grown) hw1
      clear gw0 cw0_0_0 cw0_0_1 cw0_1_0 cw0_1_1 cw0_1_2 cw0_1_3 cw0_1_4 cw0_1_5
      clear hw1
      try simp only [Act.put, List.setIfInBounds_toArray, List.set_cons_zero, List.set_cons_succ]
      repeat (first | (refine Od.wpO_skip (by simp only [List.getElem?_toArray, List.getElem?_cons_succ, List.getElem?_cons_zero] <;> rfl) rfl ?_; simp only [Act.put, List.setIfInBounds_toArray, List.set_cons_zero, List.set_cons_succ]) | (refine Od.wpO_pure (by simp only [List.getElem?_toArray, List.getElem?_cons_succ, List.getElem?_cons_zero] <;> rfl) rfl ?_; apply Exists.intro; refine ⟨?_, ?_⟩; (· intro wx gx; obtain ⟨mx, rfl⟩ := spread_of_gr gx; clear gx; all_goals (apply Od.pAt_of_quiet; intro K hK; go_big_quiet_op; first | exact hK _ rfl | (apply Exists.intro; refine ⟨fun _ => ?_, ?_⟩; (· fail); exact hK _ rfl))); try simp only [Act.put, List.setIfInBounds_toArray, List.set_cons_zero, List.set_cons_succ]))
      refine Od.wpO_call (by simp only [List.getElem?_toArray, List.getElem?_cons_succ, List.getElem?_cons_zero] <;> rfl) rfl ?_
      intro QS hQS
      go_wp2_with fail
      go_at_call 40
      (with_reducible refine ((H2.out _ gw1)).mono ?_)
      rintro e w2 ⟨rfl, hw2⟩
      go_wp2_with fail
      apply Exists.intro
      refine ⟨?_, hw2, ?_⟩
      · simp only [Act.put, List.setIfInBounds_toArray, List.set_cons_zero, List.set_cons_succ]; rfl
      have cw2_0_0 := ci hw2 (W.heap.size) 0 k (by go_simp)
      have cw2_0_1 := cg hw2 (W.heap.size) 1 (.slice ad n cap) (by go_simp)
      have zw2_0 := zb cw2_0_0
      have cw2_1_0 := ci hw2 (W.heap.size + 1) 0 kq (by go_simp)
      have cw2_1_1 := ci hw2 (W.heap.size + 1) 1 qlx (by go_simp)
      have cw2_1_2 := ci hw2 (W.heap.size + 1) 2 qly (by go_simp)
      have cw2_1_3 := ci hw2 (W.heap.size + 1) 3 qhx (by go_simp)
      have cw2_1_4 := ci hw2 (W.heap.size + 1) 4 qhy (by go_simp)
      have cw2_1_5 := cg hw2 (W.heap.size + 1) 5 (.slice bd m bcap) (by go_simp)
      have zw2_1 := zb cw2_1_0
      have gw2 : Gr W w2 := Gr.trans (by have gg := gw1; have gs := gg.size; go_grown) hw2
      clear gw1 cw1_0_0 cw1_0_1 cw1_1_0 cw1_1_1 cw1_1_2 cw1_1_3 cw1_1_4 cw1_1_5
      clear hw2
      try simp only [Act.put, List.setIfInBounds_toArray, List.set_cons_zero, List.set_cons_succ]
      repeat (first | (refine Od.wpO_skip (by simp only [List.getElem?_toArray, List.getElem?_cons_succ, List.getElem?_cons_zero] <;> rfl) rfl ?_; simp only [Act.put, List.setIfInBounds_toArray, List.set_cons_zero, List.set_cons_succ]) | (refine Od.wpO_pure (by simp only [List.getElem?_toArray, List.getElem?_cons_succ, List.getElem?_cons_zero] <;> rfl) rfl ?_; apply Exists.intro; refine ⟨?_, ?_⟩; (· intro wx gx; obtain ⟨mx, rfl⟩ := spread_of_gr gx; clear gx; all_goals (apply Od.pAt_of_quiet; intro K hK; go_big_quiet_op; first | exact hK _ rfl | (apply Exists.intro; refine ⟨fun _ => ?_, ?_⟩; (· fail); exact hK _ rfl))); try simp only [Act.put, List.setIfInBounds_toArray, List.set_cons_zero, List.set_cons_succ]))
      refine Od.wpO_call (by simp only [List.getElem?_toArray, List.getElem?_cons_succ, List.getElem?_cons_zero] <;> rfl) rfl ?_
      intro QS hQS
      go_wp2_with fail
      first | (apply Exists.intro; refine ⟨?_, (by go_grown), ?_⟩; (· simp only [Act.put, List.setIfInBounds_toArray, List.set_cons_zero, List.set_cons_succ]; rfl)) | (refine ⟨(by go_grown), ?_⟩)
      generalize hhw3 : (w2.alloc (.cells #[.nilIface, .nilIface] 34)) = w3
      have hw3 : Gr w2 w3 := by subst hhw3; go_grown
      have cw3_0_0 : w3.cell? ⟨W.heap.size, 0, none⟩ = some (.int .i64 k) := by subst hhw3; go_simp
      have cw3_0_1 : w3.cell? ⟨W.heap.size, 1, none⟩ = some (.slice ad n cap) := by subst hhw3; go_simp
      have zw3_0 := zb cw3_0_0
      have cw3_1_0 : w3.cell? ⟨W.heap.size + 1, 0, none⟩ = some (.int .i64 kq) := by subst hhw3; go_simp
      have cw3_1_1 : w3.cell? ⟨W.heap.size + 1, 1, none⟩ = some (.int .i64 qlx) := by subst hhw3; go_simp
      have cw3_1_2 : w3.cell? ⟨W.heap.size + 1, 2, none⟩ = some (.int .i64 qly) := by subst hhw3; go_simp
      have cw3_1_3 : w3.cell? ⟨W.heap.size + 1, 3, none⟩ = some (.int .i64 qhx) := by subst hhw3; go_simp
      have cw3_1_4 : w3.cell? ⟨W.heap.size + 1, 4, none⟩ = some (.int .i64 qhy) := by subst hhw3; go_simp
      have cw3_1_5 : w3.cell? ⟨W.heap.size + 1, 5, none⟩ = some (.slice bd m bcap) := by subst hhw3; go_simp
      have zw3_1 := zb cw3_1_0
      have cw3_2_0 : w3.cell? ⟨w2.heap.size, 0, none⟩ = some (.nilIface) := by subst hhw3; go_simp
      have cw3_2_1 : w3.cell? ⟨w2.heap.size, 1, none⟩ = some (.nilIface) := by subst hhw3; go_simp
      have gw3 : Gr W w3 := Gr.trans (by have gg := gw2; have gs := gg.size; go_grown) hw3
      clear hhw3 hw3 gw2 zw2_0 cw2_0_0 cw2_0_1 zw2_1 cw2_1_0 cw2_1_1 cw2_1_2 cw2_1_3 cw2_1_4 cw2_1_5
      try simp only [Act.put, List.setIfInBounds_toArray, List.set_cons_zero, List.set_cons_succ]
      repeat (first | (refine Od.wpO_skip (by simp only [List.getElem?_toArray, List.getElem?_cons_succ, List.getElem?_cons_zero] <;> rfl) rfl ?_; simp only [Act.put, List.setIfInBounds_toArray, List.set_cons_zero, List.set_cons_succ]) | (refine Od.wpO_pure (by simp only [List.getElem?_toArray, List.getElem?_cons_succ, List.getElem?_cons_zero] <;> rfl) rfl ?_; apply Exists.intro; refine ⟨?_, ?_⟩; (· intro wx gx; obtain ⟨mx, rfl⟩ := spread_of_gr gx; clear gx; all_goals (apply Od.pAt_of_quiet; intro K hK; go_big_quiet_op; first | exact hK _ rfl | (apply Exists.intro; refine ⟨fun _ => ?_, ?_⟩; (· fail); exact hK _ rfl))); try simp only [Act.put, List.setIfInBounds_toArray, List.set_cons_zero, List.set_cons_succ]))
      refine Od.wpO_call (by simp only [List.getElem?_toArray, List.getElem?_cons_succ, List.getElem?_cons_zero] <;> rfl) rfl ?_
      intro QS hQS
      go_wp2_with fail
      go_at_call 39
      (with_reducible refine ((H4.out _ _ _ _ true gw3 cw3_2_0 cw3_2_1 nf_nil nf_nil (by simp))).mono ?_)
      rintro e w4 ⟨rfl, hw4⟩
      go_wp2_with fail
      apply Exists.intro
      refine ⟨?_, hw4, ?_⟩
      · simp only [Act.put, List.setIfInBounds_toArray, List.set_cons_zero, List.set_cons_succ]; rfl
      have cw4_0_0 := ci hw4 (W.heap.size) 0 k (by go_simp)
      have cw4_0_1 := cg hw4 (W.heap.size) 1 (.slice ad n cap) (by go_simp)
      have cw4_1_0 := ci hw4 (W.heap.size + 1) 0 kq (by go_simp)
      have cw4_1_1 := ci hw4 (W.heap.size + 1) 1 qlx (by go_simp)
      have cw4_1_2 := ci hw4 (W.heap.size + 1) 2 qly (by go_simp)
      have cw4_1_3 := ci hw4 (W.heap.size + 1) 3 qhx (by go_simp)
      have cw4_1_4 := ci hw4 (W.heap.size + 1) 4 qhy (by go_simp)
      have cw4_1_5 := cg hw4 (W.heap.size + 1) 5 (.slice bd m bcap) (by go_simp)
      have gw4 : Gr W w4 := Gr.trans (by have gg := gw3; have gs := gg.size; go_grown) hw4
      clear gw3 zw3_0 cw3_0_0 cw3_0_1 zw3_1 cw3_1_0 cw3_1_1 cw3_1_2 cw3_1_3 cw3_1_4 cw3_1_5 cw3_2_0 cw3_2_1
      clear hw4
      try simp only [Act.put, List.setIfInBounds_toArray, List.set_cons_zero, List.set_cons_succ]
      repeat (first | (refine Od.wpO_skip (by simp only [List.getElem?_toArray, List.getElem?_cons_succ, List.getElem?_cons_zero] <;> rfl) rfl ?_; simp only [Act.put, List.setIfInBounds_toArray, List.set_cons_zero, List.set_cons_succ]) | (refine Od.wpO_pure (by simp only [List.getElem?_toArray, List.getElem?_cons_succ, List.getElem?_cons_zero] <;> rfl) rfl ?_; apply Exists.intro; refine ⟨?_, ?_⟩; (· intro wx gx; obtain ⟨mx, rfl⟩ := spread_of_gr gx; clear gx; all_goals (apply Od.pAt_of_quiet; intro K hK; go_big_quiet_op; first | exact hK _ rfl | (apply Exists.intro; refine ⟨fun _ => ?_, ?_⟩; (· fail); exact hK _ rfl))); try simp only [Act.put, List.setIfInBounds_toArray, List.set_cons_zero, List.set_cons_succ]))
      refine Od.wpO_call (by simp only [List.getElem?_toArray, List.getElem?_cons_succ, List.getElem?_cons_zero] <;> rfl) rfl ?_
      intro QS hQS
      go_wp2_with fail
      go_at_call 41
      (with_reducible refine ((H3.out _ gw4)).mono ?_)
      rintro e w5 ⟨rfl, hw5⟩
      go_wp2_with fail
      apply Exists.intro
      refine ⟨?_, hw5, ?_⟩
      · simp only [Act.put, List.setIfInBounds_toArray, List.set_cons_zero, List.set_cons_succ]; rfl
      have gw5 : Gr W w5 := Gr.trans (by have gg := gw4; have gs := gg.size; go_grown) hw5
      clear gw4 cw4_0_0 cw4_0_1 cw4_1_0 cw4_1_1 cw4_1_2 cw4_1_3 cw4_1_4 cw4_1_5
      clear hw5
      try simp only [Act.put, List.setIfInBounds_toArray, List.set_cons_zero, List.set_cons_succ]
      repeat (first | (refine Od.wpO_skip (by simp only [List.getElem?_toArray, List.getElem?_cons_succ, List.getElem?_cons_zero] <;> rfl) rfl ?_; simp only [Act.put, List.setIfInBounds_toArray, List.set_cons_zero, List.set_cons_succ]) | (refine Od.wpO_pure (by simp only [List.getElem?_toArray, List.getElem?_cons_succ, List.getElem?_cons_zero] <;> rfl) rfl ?_; apply Exists.intro; refine ⟨?_, ?_⟩; (· intro wx gx; obtain ⟨mx, rfl⟩ := spread_of_gr gx; clear gx; all_goals (apply Od.pAt_of_quiet; intro K hK; go_big_quiet_op; first | exact hK _ rfl | (apply Exists.intro; refine ⟨fun _ => ?_, ?_⟩; (· fail); exact hK _ rfl))); try simp only [Act.put, List.setIfInBounds_toArray, List.set_cons_zero, List.set_cons_succ]))
      refine Od.wpO_nil (hKQ _ _ ?_)
      clear hKQ KQ
      go_wp2_with fail
      go_ret
      exact ⟨rfl, gw5⟩
    · rw [decide_eq_false hd, Bool.false_and]
      have C1 : ∀ w, Gr W w → Calls Tryz.prog 34 #[.agg #[.int .i64 k, .slice ad n cap]] w fun e w' => e = .returned .nilIface ∧ Gr w w' := fun w g => (B1 w g).mono (by
        rintro e w' ⟨x, rfl, ⟨-, hx⟩, g'⟩
        obtain rfl := hx.2 hc
        exact ⟨rfl, g'⟩)
      have C2 : ∀ w, Gr W w → Calls Tryz.prog 40 #[qryV kq qlx qly qhx qhy (.slice bd m bcap)] w fun e w' => ∃ B, e = .returned (.iface 84 (.pointer (some ⟨B, 0, none⟩))) ∧ Gr w w' := fun w g => (B2 w g).mono (by
        rintro e w' ⟨x, rfl, ⟨hn, hx⟩, g'⟩
        rcases hn with rfl | ⟨B, rfl⟩
        · exact absurd (hx.1 rfl) hd
        · exact ⟨B, rfl, g'⟩)
      have H1 := Lib.hid C1
      have H2 := Lib.hid C2
      have H4 := Lib.hid B4
      clear C1 C2 B4
      clear A3 B1 B2
      go_enter Tryz.func13, Tryz.ntmps13
      go_wp2_with fail
      try simp only [List.append]
      refine Od.wp_region_ord [(0, false), (2, false), (1, true), (3, true), (4, true), (5, true), (6, false), (7, false), (8, false), (9, true), (10, false), (11, false)] (by kernel_rfl) (by kernel_rfl) ?_
      intro w0 hw0 KQ hKQ
      have cw0_0_0 := ci hw0 (W.heap.size) 0 k (by go_simp)
      have cw0_0_1 := cg hw0 (W.heap.size) 1 (.slice ad n cap) (by go_simp)
      have cw0_1_0 := ci hw0 (W.heap.size + 1) 0 kq (by go_simp)
      have cw0_1_1 := ci hw0 (W.heap.size + 1) 1 qlx (by go_simp)
      have cw0_1_2 := ci hw0 (W.heap.size + 1) 2 qly (by go_simp)
      have cw0_1_3 := ci hw0 (W.heap.size + 1) 3 qhx (by go_simp)
      have cw0_1_4 := ci hw0 (W.heap.size + 1) 4 qhy (by go_simp)
      have cw0_1_5 := cg hw0 (W.heap.size + 1) 5 (.slice bd m bcap) (by go_simp)
      have gw0 : Gr W w0 := Gr.trans (by go_grown) hw0
      skip
      clear hw0
      repeat (first | (refine Od.wpO_skip (by simp only [List.getElem?_toArray, List.getElem?_cons_succ, List.getElem?_cons_zero] <;> rfl) rfl ?_; simp only [Act.put, List.setIfInBounds_toArray, List.set_cons_zero, List.set_cons_succ]) | (refine Od.wpO_pure (by simp only [List.getElem?_toArray, List.getElem?_cons_succ, List.getElem?_cons_zero] <;> rfl) rfl ?_; apply Exists.intro; refine ⟨?_, ?_⟩; (· intro wx gx; obtain ⟨mx, rfl⟩ := spread_of_gr gx; clear gx; all_goals (apply Od.pAt_of_quiet; intro K hK; go_big_quiet_op; first | exact hK _ rfl | (apply Exists.intro; refine ⟨fun _ => ?_, ?_⟩; (· fail); exact hK _ rfl))); try simp only [Act.put, List.setIfInBounds_toArray, List.set_cons_zero, List.set_cons_succ]))
      refine Od.wpO_call (by simp only [List.getElem?_toArray, List.getElem?_cons_succ, List.getElem?_cons_zero] <;> rfl) rfl ?_
      intro QS hQS
      go_wp2_with fail
      go_at_call 34
      (with_reducible refine ((H1.out _ gw0)).mono ?_)
      rintro e w1 ⟨rfl, hw1⟩
      go_wp2_with fail
      apply Exists.intro
      refine ⟨?_, hw1, ?_⟩
      · simp only [Act.put, List.setIfInBounds_toArray, List.set_cons_zero, List.set_cons_succ]; rfl
      have cw1_0_0 := ci hw1 (W.heap.size) 0 k (by go_simp)
      have cw1_0_1 := cg hw1 (W.heap.size) 1 (.slice ad n cap) (by go_simp)
      have cw1_1_0 := ci hw1 (W.heap.size + 1) 0 kq (by go_simp)
      have cw1_1_1 := ci hw1 (W.heap.size + 1) 1 qlx (by go_simp)
      have cw1_1_2 := ci hw1 (W.heap.size + 1) 2 qly (by go_simp)
      have cw1_1_3 := ci hw1 (W.heap.size + 1) 3 qhx (by go_simp)
      have cw1_1_4 := ci hw1 (W.heap.size + 1) 4 qhy (by go_simp)
      have cw1_1_5 := cg hw1 (W.heap.size + 1) 5 (.slice bd m bcap) (by go_simp)
      have gw1 : Gr W w1 := Gr.trans (by have gg := gw0; have gs := gg.size; go_grown) hw1
      clear gw0 cw0_0_0 cw0_0_1 cw0_1_0 cw0_1_1 cw0_1_2 cw0_1_3 cw0_1_4 cw0_1_5
      clear hw1
      try simp only [Act.put, List.setIfInBounds_toArray, List.set_cons_zero, List.set_cons_succ]
      repeat (first | (refine Od.wpO_skip (by simp only [List.getElem?_toArray, List.getElem?_cons_succ, List.getElem?_cons_zero] <;> rfl) rfl ?_; simp only [Act.put, List.setIfInBounds_toArray, List.set_cons_zero, List.set_cons_succ]) | (refine Od.wpO_pure (by simp only [List.getElem?_toArray, List.getElem?_cons_succ, List.getElem?_cons_zero] <;> rfl) rfl ?_; apply Exists.intro; refine ⟨?_, ?_⟩; (· intro wx gx; obtain ⟨mx, rfl⟩ := spread_of_gr gx; clear gx; all_goals (apply Od.pAt_of_quiet; intro K hK; go_big_quiet_op; first | exact hK _ rfl | (apply Exists.intro; refine ⟨fun _ => ?_, ?_⟩; (· fail); exact hK _ rfl))); try simp only [Act.put, List.setIfInBounds_toArray, List.set_cons_zero, List.set_cons_succ]))
      refine Od.wpO_call (by simp only [List.getElem?_toArray, List.getElem?_cons_succ, List.getElem?_cons_zero] <;> rfl) rfl ?_
      intro QS hQS
      go_wp2_with fail
      go_at_call 40
      (with_reducible refine ((H2.out _ gw1)).mono ?_)
      rintro e w2 ⟨B2, rfl, hw2⟩
      go_wp2_with fail
      apply Exists.intro
      refine ⟨?_, hw2, ?_⟩
      · simp only [Act.put, List.setIfInBounds_toArray, List.set_cons_zero, List.set_cons_succ]; rfl
      have cw2_0_0 := ci hw2 (W.heap.size) 0 k (by go_simp)
      have cw2_0_1 := cg hw2 (W.heap.size) 1 (.slice ad n cap) (by go_simp)
      have zw2_0 := zb cw2_0_0
      have cw2_1_0 := ci hw2 (W.heap.size + 1) 0 kq (by go_simp)
      have cw2_1_1 := ci hw2 (W.heap.size + 1) 1 qlx (by go_simp)
      have cw2_1_2 := ci hw2 (W.heap.size + 1) 2 qly (by go_simp)
      have cw2_1_3 := ci hw2 (W.heap.size + 1) 3 qhx (by go_simp)
      have cw2_1_4 := ci hw2 (W.heap.size + 1) 4 qhy (by go_simp)
      have cw2_1_5 := cg hw2 (W.heap.size + 1) 5 (.slice bd m bcap) (by go_simp)
      have zw2_1 := zb cw2_1_0
      have gw2 : Gr W w2 := Gr.trans (by have gg := gw1; have gs := gg.size; go_grown) hw2
      clear gw1 cw1_0_0 cw1_0_1 cw1_1_0 cw1_1_1 cw1_1_2 cw1_1_3 cw1_1_4 cw1_1_5
      clear hw2
      try simp only [Act.put, List.setIfInBounds_toArray, List.set_cons_zero, List.set_cons_succ]
      repeat (first | (refine Od.wpO_skip (by simp only [List.getElem?_toArray, List.getElem?_cons_succ, List.getElem?_cons_zero] <;> rfl) rfl ?_; simp only [Act.put, List.setIfInBounds_toArray, List.set_cons_zero, List.set_cons_succ]) | (refine Od.wpO_pure (by simp only [List.getElem?_toArray, List.getElem?_cons_succ, List.getElem?_cons_zero] <;> rfl) rfl ?_; apply Exists.intro; refine ⟨?_, ?_⟩; (· intro wx gx; obtain ⟨mx, rfl⟩ := spread_of_gr gx; clear gx; all_goals (apply Od.pAt_of_quiet; intro K hK; go_big_quiet_op; first | exact hK _ rfl | (apply Exists.intro; refine ⟨fun _ => ?_, ?_⟩; (· fail); exact hK _ rfl))); try simp only [Act.put, List.setIfInBounds_toArray, List.set_cons_zero, List.set_cons_succ]))
      refine Od.wpO_call (by simp only [List.getElem?_toArray, List.getElem?_cons_succ, List.getElem?_cons_zero] <;> rfl) rfl ?_
      intro QS hQS
      go_wp2_with fail
      first | (apply Exists.intro; refine ⟨?_, (by go_grown), ?_⟩; (· simp only [Act.put, List.setIfInBounds_toArray, List.set_cons_zero, List.set_cons_succ]; rfl)) | (refine ⟨(by go_grown), ?_⟩)
      generalize hhw3 : (w2.alloc (.cells #[.nilIface, .iface 84 (.pointer (some ⟨B2, 0, none⟩))] 34)) = w3
      have hw3 : Gr w2 w3 := by subst hhw3; go_grown
      have cw3_0_0 : w3.cell? ⟨W.heap.size, 0, none⟩ = some (.int .i64 k) := by subst hhw3; go_simp
      have cw3_0_1 : w3.cell? ⟨W.heap.size, 1, none⟩ = some (.slice ad n cap) := by subst hhw3; go_simp
      have zw3_0 := zb cw3_0_0
      have cw3_1_0 : w3.cell? ⟨W.heap.size + 1, 0, none⟩ = some (.int .i64 kq) := by subst hhw3; go_simp
      have cw3_1_1 : w3.cell? ⟨W.heap.size + 1, 1, none⟩ = some (.int .i64 qlx) := by subst hhw3; go_simp
      have cw3_1_2 : w3.cell? ⟨W.heap.size + 1, 2, none⟩ = some (.int .i64 qly) := by subst hhw3; go_simp
      have cw3_1_3 : w3.cell? ⟨W.heap.size + 1, 3, none⟩ = some (.int .i64 qhx) := by subst hhw3; go_simp
      have cw3_1_4 : w3.cell? ⟨W.heap.size + 1, 4, none⟩ = some (.int .i64 qhy) := by subst hhw3; go_simp
      have cw3_1_5 : w3.cell? ⟨W.heap.size + 1, 5, none⟩ = some (.slice bd m bcap) := by subst hhw3; go_simp
      have zw3_1 := zb cw3_1_0
      have cw3_2_0 : w3.cell? ⟨w2.heap.size, 0, none⟩ = some (.nilIface) := by subst hhw3; go_simp
      have cw3_2_1 : w3.cell? ⟨w2.heap.size, 1, none⟩ = some (.iface 84 (.pointer (some ⟨B2, 0, none⟩))) := by subst hhw3; go_simp
      have gw3 : Gr W w3 := Gr.trans (by have gg := gw2; have gs := gg.size; go_grown) hw3
      clear hhw3 hw3 gw2 zw2_0 cw2_0_0 cw2_0_1 zw2_1 cw2_1_0 cw2_1_1 cw2_1_2 cw2_1_3 cw2_1_4 cw2_1_5
      try simp only [Act.put, List.setIfInBounds_toArray, List.set_cons_zero, List.set_cons_succ]
      repeat (first | (refine Od.wpO_skip (by simp only [List.getElem?_toArray, List.getElem?_cons_succ, List.getElem?_cons_zero] <;> rfl) rfl ?_; simp only [Act.put, List.setIfInBounds_toArray, List.set_cons_zero, List.set_cons_succ]) | (refine Od.wpO_pure (by simp only [List.getElem?_toArray, List.getElem?_cons_succ, List.getElem?_cons_zero] <;> rfl) rfl ?_; apply Exists.intro; refine ⟨?_, ?_⟩; (· intro wx gx; obtain ⟨mx, rfl⟩ := spread_of_gr gx; clear gx; all_goals (apply Od.pAt_of_quiet; intro K hK; go_big_quiet_op; first | exact hK _ rfl | (apply Exists.intro; refine ⟨fun _ => ?_, ?_⟩; (· fail); exact hK _ rfl))); try simp only [Act.put, List.setIfInBounds_toArray, List.set_cons_zero, List.set_cons_succ]))
      refine Od.wpO_call (by simp only [List.getElem?_toArray, List.getElem?_cons_succ, List.getElem?_cons_zero] <;> rfl) rfl ?_
      intro QS hQS
      go_wp2_with fail
      go_at_call 39
      (with_reducible refine ((H4.out _ _ _ _ false gw3 cw3_2_0 cw3_2_1 nf_nil (nf_f _) (by simp))).mono ?_)
      rintro e w4 ⟨rfl, hw4⟩
      go_wp2_with fail
      apply Exists.intro
      refine ⟨?_, hw4, ?_⟩
      · simp only [Act.put, List.setIfInBounds_toArray, List.set_cons_zero, List.set_cons_succ]; rfl
      have cw4_0_0 := ci hw4 (W.heap.size) 0 k (by go_simp)
      have cw4_0_1 := cg hw4 (W.heap.size) 1 (.slice ad n cap) (by go_simp)
      have cw4_1_0 := ci hw4 (W.heap.size + 1) 0 kq (by go_simp)
      have cw4_1_1 := ci hw4 (W.heap.size + 1) 1 qlx (by go_simp)
      have cw4_1_2 := ci hw4 (W.heap.size + 1) 2 qly (by go_simp)
      have cw4_1_3 := ci hw4 (W.heap.size + 1) 3 qhx (by go_simp)
      have cw4_1_4 := ci hw4 (W.heap.size + 1) 4 qhy (by go_simp)
      have cw4_1_5 := cg hw4 (W.heap.size + 1) 5 (.slice bd m bcap) (by go_simp)
      have gw4 : Gr W w4 := Gr.trans (by have gg := gw3; have gs := gg.size; go_grown) hw4
      clear gw3 zw3_0 cw3_0_0 cw3_0_1 zw3_1 cw3_1_0 cw3_1_1 cw3_1_2 cw3_1_3 cw3_1_4 cw3_1_5 cw3_2_0 cw3_2_1
      clear hw4
      try simp only [Act.put, List.setIfInBounds_toArray, List.set_cons_zero, List.set_cons_succ]
      repeat (first | (refine Od.wpO_skip (by simp only [List.getElem?_toArray, List.getElem?_cons_succ, List.getElem?_cons_zero] <;> rfl) rfl ?_; simp only [Act.put, List.setIfInBounds_toArray, List.set_cons_zero, List.set_cons_succ]) | (refine Od.wpO_pure (by simp only [List.getElem?_toArray, List.getElem?_cons_succ, List.getElem?_cons_zero] <;> rfl) rfl ?_; apply Exists.intro; refine ⟨?_, ?_⟩; (· intro wx gx; obtain ⟨mx, rfl⟩ := spread_of_gr gx; clear gx; all_goals (apply Od.pAt_of_quiet; intro K hK; go_big_quiet_op; first | exact hK _ rfl | (apply Exists.intro; refine ⟨fun _ => ?_, ?_⟩; (· fail); exact hK _ rfl))); try simp only [Act.put, List.setIfInBounds_toArray, List.set_cons_zero, List.set_cons_succ]))
      refine Od.wpO_nil (hKQ _ _ ?_)
      clear hKQ KQ
      go_wp2_with fail
      go_ret
      exact ⟨rfl, gw4⟩
  · rw [decide_eq_false hc, Bool.false_and, Bool.false_and]
    by_cases hd : d = 0
    · skip
      have C1 : ∀ w, Gr W w → Calls Tryz.prog 34 #[.agg #[.int .i64 k, .slice ad n cap]] w fun e w' => ∃ B, e = .returned (.iface 84 (.pointer (some ⟨B, 0, none⟩))) ∧ Gr w w' := fun w g => (B1 w g).mono (by
        rintro e w' ⟨x, rfl, ⟨hn, hx⟩, g'⟩
        rcases hn with rfl | ⟨B, rfl⟩
        · exact absurd (hx.1 rfl) hc
        · exact ⟨B, rfl, g'⟩)
      have C2 : ∀ w, Gr W w → Calls Tryz.prog 40 #[qryV kq qlx qly qhx qhy (.slice bd m bcap)] w fun e w' => e = .returned .nilIface ∧ Gr w w' := fun w g => (B2 w g).mono (by
        rintro e w' ⟨x, rfl, ⟨-, hx⟩, g'⟩
        obtain rfl := hx.2 hd
        exact ⟨rfl, g'⟩)
      have H1 := Lib.hid C1
      have H2 := Lib.hid C2
      have H4 := Lib.hid B4
      clear C1 C2 B4
      clear A3 B1 B2
      go_enter Tryz.func13, Tryz.ntmps13
      go_wp2_with fail
      try simp only [List.append]
      refine Od.wp_region_ord [(0, false), (2, false), (1, true), (3, true), (4, true), (5, true), (6, false), (7, false), (8, false), (9, true), (10, false), (11, false)] (by kernel_rfl) (by kernel_rfl) ?_
      intro w0 hw0 KQ hKQ
      have cw0_0_0 := ci hw0 (W.heap.size) 0 k (by go_simp)
      have cw0_0_1 := cg hw0 (W.heap.size) 1 (.slice ad n cap) (by go_simp)
      have cw0_1_0 := ci hw0 (W.heap.size + 1) 0 kq (by go_simp)
      have cw0_1_1 := ci hw0 (W.heap.size + 1) 1 qlx (by go_simp)
      have cw0_1_2 := ci hw0 (W.heap.size + 1) 2 qly (by go_simp)
      have cw0_1_3 := ci hw0 (W.heap.size + 1) 3 qhx (by go_simp)
      have cw0_1_4 := ci hw0 (W.heap.size + 1) 4 qhy (by go_simp)
      have cw0_1_5 := cg hw0 (W.heap.size + 1) 5 (.slice bd m bcap) (by go_simp)
      have gw0 : Gr W w0 := Gr.trans (by go_grown) hw0
      skip
      clear hw0
      repeat (first | (refine Od.wpO_skip (by simp only [List.getElem?_toArray, List.getElem?_cons_succ, List.getElem?_cons_zero] <;> rfl) rfl ?_; simp only [Act.put, List.setIfInBounds_toArray, List.set_cons_zero, List.set_cons_succ]) | (refine Od.wpO_pure (by simp only [List.getElem?_toArray, List.getElem?_cons_succ, List.getElem?_cons_zero] <;> rfl) rfl ?_; apply Exists.intro; refine ⟨?_, ?_⟩; (· intro wx gx; obtain ⟨mx, rfl⟩ := spread_of_gr gx; clear gx; all_goals (apply Od.pAt_of_quiet; intro K hK; go_big_quiet_op; first | exact hK _ rfl | (apply Exists.intro; refine ⟨fun _ => ?_, ?_⟩; (· fail); exact hK _ rfl))); try simp only [Act.put, List.setIfInBounds_toArray, List.set_cons_zero, List.set_cons_succ]))
      refine Od.wpO_call (by simp only [List.getElem?_toArray, List.getElem?_cons_succ, List.getElem?_cons_zero] <;> rfl) rfl ?_
      intro QS hQS
      go_wp2_with fail
      go_at_call 34
      (with_reducible refine ((H1.out _ gw0)).mono ?_)
      rintro e w1 ⟨B1, rfl, hw1⟩
      go_wp2_with fail
      apply Exists.intro
      refine ⟨?_, hw1, ?_⟩
      · simp only [Act.put, List.setIfInBounds_toArray, List.set_cons_zero, List.set_cons_succ]; rfl
      have cw1_0_0 := ci hw1 (W.heap.size) 0 k (by go_simp)
      have cw1_0_1 := cg hw1 (W.heap.size) 1 (.slice ad n cap) (by go_simp)
      have cw1_1_0 := ci hw1 (W.heap.size + 1) 0 kq (by go_simp)
      have cw1_1_1 := ci hw1 (W.heap.size + 1) 1 qlx (by go_simp)
      have cw1_1_2 := ci hw1 (W.heap.size + 1) 2 qly (by go_simp)
      have cw1_1_3 := ci hw1 (W.heap.size + 1) 3 qhx (by go_simp)
      have cw1_1_4 := ci hw1 (W.heap.size + 1) 4 qhy (by go_simp)
      have cw1_1_5 := cg hw1 (W.heap.size + 1) 5 (.slice bd m bcap) (by go_simp)
      have gw1 : Gr W w1 := Gr.trans (by have gg := gw0; have gs := gg.size; go_grown) hw1
      clear gw0 cw0_0_0 cw0_0_1 cw0_1_0 cw0_1_1 cw0_1_2 cw0_1_3 cw0_1_4 cw0_1_5
      clear hw1
      try simp only [Act.put, List.setIfInBounds_toArray, List.set_cons_zero, List.set_cons_succ]
      repeat (first | (refine Od.wpO_skip (by simp only [List.getElem?_toArray, List.getElem?_cons_succ, List.getElem?_cons_zero] <;> rfl) rfl ?_; simp only [Act.put, List.setIfInBounds_toArray, List.set_cons_zero, List.set_cons_succ]) | (refine Od.wpO_pure (by simp only [List.getElem?_toArray, List.getElem?_cons_succ, List.getElem?_cons_zero] <;> rfl) rfl ?_; apply Exists.intro; refine ⟨?_, ?_⟩; (· intro wx gx; obtain ⟨mx, rfl⟩ := spread_of_gr gx; clear gx; all_goals (apply Od.pAt_of_quiet; intro K hK; go_big_quiet_op; first | exact hK _ rfl | (apply Exists.intro; refine ⟨fun _ => ?_, ?_⟩; (· fail); exact hK _ rfl))); try simp only [Act.put, List.setIfInBounds_toArray, List.set_cons_zero, List.set_cons_succ]))
      refine Od.wpO_call (by simp only [List.getElem?_toArray, List.getElem?_cons_succ, List.getElem?_cons_zero] <;> rfl) rfl ?_
      intro QS hQS
      go_wp2_with fail
      go_at_call 40
      (with_reducible refine ((H2.out _ gw1)).mono ?_)
      rintro e w2 ⟨rfl, hw2⟩
      go_wp2_with fail
      apply Exists.intro
      refine ⟨?_, hw2, ?_⟩
      · simp only [Act.put, List.setIfInBounds_toArray, List.set_cons_zero, List.set_cons_succ]; rfl
      have cw2_0_0 := ci hw2 (W.heap.size) 0 k (by go_simp)
      have cw2_0_1 := cg hw2 (W.heap.size) 1 (.slice ad n cap) (by go_simp)
      have zw2_0 := zb cw2_0_0
      have cw2_1_0 := ci hw2 (W.heap.size + 1) 0 kq (by go_simp)
      have cw2_1_1 := ci hw2 (W.heap.size + 1) 1 qlx (by go_simp)
      have cw2_1_2 := ci hw2 (W.heap.size + 1) 2 qly (by go_simp)
      have cw2_1_3 := ci hw2 (W.heap.size + 1) 3 qhx (by go_simp)
      have cw2_1_4 := ci hw2 (W.heap.size + 1) 4 qhy (by go_simp)
      have cw2_1_5 := cg hw2 (W.heap.size + 1) 5 (.slice bd m bcap) (by go_simp)
      have zw2_1 := zb cw2_1_0
      have gw2 : Gr W w2 := Gr.trans (by have gg := gw1; have gs := gg.size; go_grown) hw2
      clear gw1 cw1_0_0 cw1_0_1 cw1_1_0 cw1_1_1 cw1_1_2 cw1_1_3 cw1_1_4 cw1_1_5
      clear hw2
      try simp only [Act.put, List.setIfInBounds_toArray, List.set_cons_zero, List.set_cons_succ]
      repeat (first | (refine Od.wpO_skip (by simp only [List.getElem?_toArray, List.getElem?_cons_succ, List.getElem?_cons_zero] <;> rfl) rfl ?_; simp only [Act.put, List.setIfInBounds_toArray, List.set_cons_zero, List.set_cons_succ]) | (refine Od.wpO_pure (by simp only [List.getElem?_toArray, List.getElem?_cons_succ, List.getElem?_cons_zero] <;> rfl) rfl ?_; apply Exists.intro; refine ⟨?_, ?_⟩; (· intro wx gx; obtain ⟨mx, rfl⟩ := spread_of_gr gx; clear gx; all_goals (apply Od.pAt_of_quiet; intro K hK; go_big_quiet_op; first | exact hK _ rfl | (apply Exists.intro; refine ⟨fun _ => ?_, ?_⟩; (· fail); exact hK _ rfl))); try simp only [Act.put, List.setIfInBounds_toArray, List.set_cons_zero, List.set_cons_succ]))
      refine Od.wpO_call (by simp only [List.getElem?_toArray, List.getElem?_cons_succ, List.getElem?_cons_zero] <;> rfl) rfl ?_
      intro QS hQS
      go_wp2_with fail
      first | (apply Exists.intro; refine ⟨?_, (by go_grown), ?_⟩; (· simp only [Act.put, List.setIfInBounds_toArray, List.set_cons_zero, List.set_cons_succ]; rfl)) | (refine ⟨(by go_grown), ?_⟩)
      generalize hhw3 : (w2.alloc (.cells #[.iface 84 (.pointer (some ⟨B1, 0, none⟩)), .nilIface] 34)) = w3
      have hw3 : Gr w2 w3 := by subst hhw3; go_grown
      have cw3_0_0 : w3.cell? ⟨W.heap.size, 0, none⟩ = some (.int .i64 k) := by subst hhw3; go_simp
      have cw3_0_1 : w3.cell? ⟨W.heap.size, 1, none⟩ = some (.slice ad n cap) := by subst hhw3; go_simp
      have zw3_0 := zb cw3_0_0
      have cw3_1_0 : w3.cell? ⟨W.heap.size + 1, 0, none⟩ = some (.int .i64 kq) := by subst hhw3; go_simp
      have cw3_1_1 : w3.cell? ⟨W.heap.size + 1, 1, none⟩ = some (.int .i64 qlx) := by subst hhw3; go_simp
      have cw3_1_2 : w3.cell? ⟨W.heap.size + 1, 2, none⟩ = some (.int .i64 qly) := by subst hhw3; go_simp
      have cw3_1_3 : w3.cell? ⟨W.heap.size + 1, 3, none⟩ = some (.int .i64 qhx) := by subst hhw3; go_simp
      have cw3_1_4 : w3.cell? ⟨W.heap.size + 1, 4, none⟩ = some (.int .i64 qhy) := by subst hhw3; go_simp
      have cw3_1_5 : w3.cell? ⟨W.heap.size + 1, 5, none⟩ = some (.slice bd m bcap) := by subst hhw3; go_simp
      have zw3_1 := zb cw3_1_0
      have cw3_2_0 : w3.cell? ⟨w2.heap.size, 0, none⟩ = some (.iface 84 (.pointer (some ⟨B1, 0, none⟩))) := by subst hhw3; go_simp
      have cw3_2_1 : w3.cell? ⟨w2.heap.size, 1, none⟩ = some (.nilIface) := by subst hhw3; go_simp
      have gw3 : Gr W w3 := Gr.trans (by have gg := gw2; have gs := gg.size; go_grown) hw3
      clear hhw3 hw3 gw2 zw2_0 cw2_0_0 cw2_0_1 zw2_1 cw2_1_0 cw2_1_1 cw2_1_2 cw2_1_3 cw2_1_4 cw2_1_5
      try simp only [Act.put, List.setIfInBounds_toArray, List.set_cons_zero, List.set_cons_succ]
      repeat (first | (refine Od.wpO_skip (by simp only [List.getElem?_toArray, List.getElem?_cons_succ, List.getElem?_cons_zero] <;> rfl) rfl ?_; simp only [Act.put, List.setIfInBounds_toArray, List.set_cons_zero, List.set_cons_succ]) | (refine Od.wpO_pure (by simp only [List.getElem?_toArray, List.getElem?_cons_succ, List.getElem?_cons_zero] <;> rfl) rfl ?_; apply Exists.intro; refine ⟨?_, ?_⟩; (· intro wx gx; obtain ⟨mx, rfl⟩ := spread_of_gr gx; clear gx; all_goals (apply Od.pAt_of_quiet; intro K hK; go_big_quiet_op; first | exact hK _ rfl | (apply Exists.intro; refine ⟨fun _ => ?_, ?_⟩; (· fail); exact hK _ rfl))); try simp only [Act.put, List.setIfInBounds_toArray, List.set_cons_zero, List.set_cons_succ]))
      refine Od.wpO_call (by simp only [List.getElem?_toArray, List.getElem?_cons_succ, List.getElem?_cons_zero] <;> rfl) rfl ?_
      intro QS hQS
      go_wp2_with fail
      go_at_call 39
      (with_reducible refine ((H4.out _ _ _ _ false gw3 cw3_2_0 cw3_2_1 (nf_f _) nf_nil (by simp))).mono ?_)
      rintro e w4 ⟨rfl, hw4⟩
      go_wp2_with fail
      apply Exists.intro
      refine ⟨?_, hw4, ?_⟩
      · simp only [Act.put, List.setIfInBounds_toArray, List.set_cons_zero, List.set_cons_succ]; rfl
      have cw4_0_0 := ci hw4 (W.heap.size) 0 k (by go_simp)
      have cw4_0_1 := cg hw4 (W.heap.size) 1 (.slice ad n cap) (by go_simp)
      have cw4_1_0 := ci hw4 (W.heap.size + 1) 0 kq (by go_simp)
      have cw4_1_1 := ci hw4 (W.heap.size + 1) 1 qlx (by go_simp)
      have cw4_1_2 := ci hw4 (W.heap.size + 1) 2 qly (by go_simp)
      have cw4_1_3 := ci hw4 (W.heap.size + 1) 3 qhx (by go_simp)
      have cw4_1_4 := ci hw4 (W.heap.size + 1) 4 qhy (by go_simp)
      have cw4_1_5 := cg hw4 (W.heap.size + 1) 5 (.slice bd m bcap) (by go_simp)
      have gw4 : Gr W w4 := Gr.trans (by have gg := gw3; have gs := gg.size; go_grown) hw4
      clear gw3 zw3_0 cw3_0_0 cw3_0_1 zw3_1 cw3_1_0 cw3_1_1 cw3_1_2 cw3_1_3 cw3_1_4 cw3_1_5 cw3_2_0 cw3_2_1
      clear hw4
      try simp only [Act.put, List.setIfInBounds_toArray, List.set_cons_zero, List.set_cons_succ]
      repeat (first | (refine Od.wpO_skip (by simp only [List.getElem?_toArray, List.getElem?_cons_succ, List.getElem?_cons_zero] <;> rfl) rfl ?_; simp only [Act.put, List.setIfInBounds_toArray, List.set_cons_zero, List.set_cons_succ]) | (refine Od.wpO_pure (by simp only [List.getElem?_toArray, List.getElem?_cons_succ, List.getElem?_cons_zero] <;> rfl) rfl ?_; apply Exists.intro; refine ⟨?_, ?_⟩; (· intro wx gx; obtain ⟨mx, rfl⟩ := spread_of_gr gx; clear gx; all_goals (apply Od.pAt_of_quiet; intro K hK; go_big_quiet_op; first | exact hK _ rfl | (apply Exists.intro; refine ⟨fun _ => ?_, ?_⟩; (· fail); exact hK _ rfl))); try simp only [Act.put, List.setIfInBounds_toArray, List.set_cons_zero, List.set_cons_succ]))
      refine Od.wpO_nil (hKQ _ _ ?_)
      clear hKQ KQ
      go_wp2_with fail
      go_ret
      exact ⟨rfl, gw4⟩
    · skip
      have C1 : ∀ w, Gr W w → Calls Tryz.prog 34 #[.agg #[.int .i64 k, .slice ad n cap]] w fun e w' => ∃ B, e = .returned (.iface 84 (.pointer (some ⟨B, 0, none⟩))) ∧ Gr w w' := fun w g => (B1 w g).mono (by
        rintro e w' ⟨x, rfl, ⟨hn, hx⟩, g'⟩
        rcases hn with rfl | ⟨B, rfl⟩
        · exact absurd (hx.1 rfl) hc
        · exact ⟨B, rfl, g'⟩)
      have C2 : ∀ w, Gr W w → Calls Tryz.prog 40 #[qryV kq qlx qly qhx qhy (.slice bd m bcap)] w fun e w' => ∃ B, e = .returned (.iface 84 (.pointer (some ⟨B, 0, none⟩))) ∧ Gr w w' := fun w g => (B2 w g).mono (by
        rintro e w' ⟨x, rfl, ⟨hn, hx⟩, g'⟩
        rcases hn with rfl | ⟨B, rfl⟩
        · exact absurd (hx.1 rfl) hd
        · exact ⟨B, rfl, g'⟩)
      have H1 := Lib.hid C1
      have H2 := Lib.hid C2
      have H4 := Lib.hid B4
      clear C1 C2 B4
      clear A3 B1 B2
      go_enter Tryz.func13, Tryz.ntmps13
      go_wp2_with fail
      try simp only [List.append]
      refine Od.wp_region_ord [(0, false), (2, false), (1, true), (3, true), (4, true), (5, true), (6, false), (7, false), (8, false), (9, true), (10, false), (11, false)] (by kernel_rfl) (by kernel_rfl) ?_
      intro w0 hw0 KQ hKQ
      have cw0_0_0 := ci hw0 (W.heap.size) 0 k (by go_simp)
      have cw0_0_1 := cg hw0 (W.heap.size) 1 (.slice ad n cap) (by go_simp)
      have cw0_1_0 := ci hw0 (W.heap.size + 1) 0 kq (by go_simp)
      have cw0_1_1 := ci hw0 (W.heap.size + 1) 1 qlx (by go_simp)
      have cw0_1_2 := ci hw0 (W.heap.size + 1) 2 qly (by go_simp)
      have cw0_1_3 := ci hw0 (W.heap.size + 1) 3 qhx (by go_simp)
      have cw0_1_4 := ci hw0 (W.heap.size + 1) 4 qhy (by go_simp)
      have cw0_1_5 := cg hw0 (W.heap.size + 1) 5 (.slice bd m bcap) (by go_simp)
      have gw0 : Gr W w0 := Gr.trans (by go_grown) hw0
      skip
      clear hw0
      repeat (first | (refine Od.wpO_skip (by simp only [List.getElem?_toArray, List.getElem?_cons_succ, List.getElem?_cons_zero] <;> rfl) rfl ?_; simp only [Act.put, List.setIfInBounds_toArray, List.set_cons_zero, List.set_cons_succ]) | (refine Od.wpO_pure (by simp only [List.getElem?_toArray, List.getElem?_cons_succ, List.getElem?_cons_zero] <;> rfl) rfl ?_; apply Exists.intro; refine ⟨?_, ?_⟩; (· intro wx gx; obtain ⟨mx, rfl⟩ := spread_of_gr gx; clear gx; all_goals (apply Od.pAt_of_quiet; intro K hK; go_big_quiet_op; first | exact hK _ rfl | (apply Exists.intro; refine ⟨fun _ => ?_, ?_⟩; (· fail); exact hK _ rfl))); try simp only [Act.put, List.setIfInBounds_toArray, List.set_cons_zero, List.set_cons_succ]))
      refine Od.wpO_call (by simp only [List.getElem?_toArray, List.getElem?_cons_succ, List.getElem?_cons_zero] <;> rfl) rfl ?_
      intro QS hQS
      go_wp2_with fail
      go_at_call 34
      (with_reducible refine ((H1.out _ gw0)).mono ?_)
      rintro e w1 ⟨B1, rfl, hw1⟩
      go_wp2_with fail
      apply Exists.intro
      refine ⟨?_, hw1, ?_⟩
      · simp only [Act.put, List.setIfInBounds_toArray, List.set_cons_zero, List.set_cons_succ]; rfl
      have cw1_0_0 := ci hw1 (W.heap.size) 0 k (by go_simp)
      have cw1_0_1 := cg hw1 (W.heap.size) 1 (.slice ad n cap) (by go_simp)
      have cw1_1_0 := ci hw1 (W.heap.size + 1) 0 kq (by go_simp)
      have cw1_1_1 := ci hw1 (W.heap.size + 1) 1 qlx (by go_simp)
      have cw1_1_2 := ci hw1 (W.heap.size + 1) 2 qly (by go_simp)
      have cw1_1_3 := ci hw1 (W.heap.size + 1) 3 qhx (by go_simp)
      have cw1_1_4 := ci hw1 (W.heap.size + 1) 4 qhy (by go_simp)
      have cw1_1_5 := cg hw1 (W.heap.size + 1) 5 (.slice bd m bcap) (by go_simp)
      have gw1 : Gr W w1 := Gr.trans (by have gg := gw0; have gs := gg.size; go_grown) hw1
      clear gw0 cw0_0_0 cw0_0_1 cw0_1_0 cw0_1_1 cw0_1_2 cw0_1_3 cw0_1_4 cw0_1_5
      clear hw1
      try simp only [Act.put, List.setIfInBounds_toArray, List.set_cons_zero, List.set_cons_succ]
      repeat (first | (refine Od.wpO_skip (by simp only [List.getElem?_toArray, List.getElem?_cons_succ, List.getElem?_cons_zero] <;> rfl) rfl ?_; simp only [Act.put, List.setIfInBounds_toArray, List.set_cons_zero, List.set_cons_succ]) | (refine Od.wpO_pure (by simp only [List.getElem?_toArray, List.getElem?_cons_succ, List.getElem?_cons_zero] <;> rfl) rfl ?_; apply Exists.intro; refine ⟨?_, ?_⟩; (· intro wx gx; obtain ⟨mx, rfl⟩ := spread_of_gr gx; clear gx; all_goals (apply Od.pAt_of_quiet; intro K hK; go_big_quiet_op; first | exact hK _ rfl | (apply Exists.intro; refine ⟨fun _ => ?_, ?_⟩; (· fail); exact hK _ rfl))); try simp only [Act.put, List.setIfInBounds_toArray, List.set_cons_zero, List.set_cons_succ]))
      refine Od.wpO_call (by simp only [List.getElem?_toArray, List.getElem?_cons_succ, List.getElem?_cons_zero] <;> rfl) rfl ?_
      intro QS hQS
      go_wp2_with fail
      go_at_call 40
      (with_reducible refine ((H2.out _ gw1)).mono ?_)
      rintro e w2 ⟨B2, rfl, hw2⟩
      go_wp2_with fail
      apply Exists.intro
      refine ⟨?_, hw2, ?_⟩
      · simp only [Act.put, List.setIfInBounds_toArray, List.set_cons_zero, List.set_cons_succ]; rfl
      have cw2_0_0 := ci hw2 (W.heap.size) 0 k (by go_simp)
      have cw2_0_1 := cg hw2 (W.heap.size) 1 (.slice ad n cap) (by go_simp)
      have zw2_0 := zb cw2_0_0
      have cw2_1_0 := ci hw2 (W.heap.size + 1) 0 kq (by go_simp)
      have cw2_1_1 := ci hw2 (W.heap.size + 1) 1 qlx (by go_simp)
      have cw2_1_2 := ci hw2 (W.heap.size + 1) 2 qly (by go_simp)
      have cw2_1_3 := ci hw2 (W.heap.size + 1) 3 qhx (by go_simp)
      have cw2_1_4 := ci hw2 (W.heap.size + 1) 4 qhy (by go_simp)
      have cw2_1_5 := cg hw2 (W.heap.size + 1) 5 (.slice bd m bcap) (by go_simp)
      have zw2_1 := zb cw2_1_0
      have gw2 : Gr W w2 := Gr.trans (by have gg := gw1; have gs := gg.size; go_grown) hw2
      clear gw1 cw1_0_0 cw1_0_1 cw1_1_0 cw1_1_1 cw1_1_2 cw1_1_3 cw1_1_4 cw1_1_5
      clear hw2
      try simp only [Act.put, List.setIfInBounds_toArray, List.set_cons_zero, List.set_cons_succ]
      repeat (first | (refine Od.wpO_skip (by simp only [List.getElem?_toArray, List.getElem?_cons_succ, List.getElem?_cons_zero] <;> rfl) rfl ?_; simp only [Act.put, List.setIfInBounds_toArray, List.set_cons_zero, List.set_cons_succ]) | (refine Od.wpO_pure (by simp only [List.getElem?_toArray, List.getElem?_cons_succ, List.getElem?_cons_zero] <;> rfl) rfl ?_; apply Exists.intro; refine ⟨?_, ?_⟩; (· intro wx gx; obtain ⟨mx, rfl⟩ := spread_of_gr gx; clear gx; all_goals (apply Od.pAt_of_quiet; intro K hK; go_big_quiet_op; first | exact hK _ rfl | (apply Exists.intro; refine ⟨fun _ => ?_, ?_⟩; (· fail); exact hK _ rfl))); try simp only [Act.put, List.setIfInBounds_toArray, List.set_cons_zero, List.set_cons_succ]))
      refine Od.wpO_call (by simp only [List.getElem?_toArray, List.getElem?_cons_succ, List.getElem?_cons_zero] <;> rfl) rfl ?_
      intro QS hQS
      go_wp2_with fail
      first | (apply Exists.intro; refine ⟨?_, (by go_grown), ?_⟩; (· simp only [Act.put, List.setIfInBounds_toArray, List.set_cons_zero, List.set_cons_succ]; rfl)) | (refine ⟨(by go_grown), ?_⟩)
      generalize hhw3 : (w2.alloc (.cells #[.iface 84 (.pointer (some ⟨B1, 0, none⟩)), .iface 84 (.pointer (some ⟨B2, 0, none⟩))] 34)) = w3
      have hw3 : Gr w2 w3 := by subst hhw3; go_grown
      have cw3_0_0 : w3.cell? ⟨W.heap.size, 0, none⟩ = some (.int .i64 k) := by subst hhw3; go_simp
      have cw3_0_1 : w3.cell? ⟨W.heap.size, 1, none⟩ = some (.slice ad n cap) := by subst hhw3; go_simp
      have zw3_0 := zb cw3_0_0
      have cw3_1_0 : w3.cell? ⟨W.heap.size + 1, 0, none⟩ = some (.int .i64 kq) := by subst hhw3; go_simp
      have cw3_1_1 : w3.cell? ⟨W.heap.size + 1, 1, none⟩ = some (.int .i64 qlx) := by subst hhw3; go_simp
      have cw3_1_2 : w3.cell? ⟨W.heap.size + 1, 2, none⟩ = some (.int .i64 qly) := by subst hhw3; go_simp
      have cw3_1_3 : w3.cell? ⟨W.heap.size + 1, 3, none⟩ = some (.int .i64 qhx) := by subst hhw3; go_simp
      have cw3_1_4 : w3.cell? ⟨W.heap.size + 1, 4, none⟩ = some (.int .i64 qhy) := by subst hhw3; go_simp
      have cw3_1_5 : w3.cell? ⟨W.heap.size + 1, 5, none⟩ = some (.slice bd m bcap) := by subst hhw3; go_simp
      have zw3_1 := zb cw3_1_0
      have cw3_2_0 : w3.cell? ⟨w2.heap.size, 0, none⟩ = some (.iface 84 (.pointer (some ⟨B1, 0, none⟩))) := by subst hhw3; go_simp
      have cw3_2_1 : w3.cell? ⟨w2.heap.size, 1, none⟩ = some (.iface 84 (.pointer (some ⟨B2, 0, none⟩))) := by subst hhw3; go_simp
      have gw3 : Gr W w3 := Gr.trans (by have gg := gw2; have gs := gg.size; go_grown) hw3
      clear hhw3 hw3 gw2 zw2_0 cw2_0_0 cw2_0_1 zw2_1 cw2_1_0 cw2_1_1 cw2_1_2 cw2_1_3 cw2_1_4 cw2_1_5
      try simp only [Act.put, List.setIfInBounds_toArray, List.set_cons_zero, List.set_cons_succ]
      repeat (first | (refine Od.wpO_skip (by simp only [List.getElem?_toArray, List.getElem?_cons_succ, List.getElem?_cons_zero] <;> rfl) rfl ?_; simp only [Act.put, List.setIfInBounds_toArray, List.set_cons_zero, List.set_cons_succ]) | (refine Od.wpO_pure (by simp only [List.getElem?_toArray, List.getElem?_cons_succ, List.getElem?_cons_zero] <;> rfl) rfl ?_; apply Exists.intro; refine ⟨?_, ?_⟩; (· intro wx gx; obtain ⟨mx, rfl⟩ := spread_of_gr gx; clear gx; all_goals (apply Od.pAt_of_quiet; intro K hK; go_big_quiet_op; first | exact hK _ rfl | (apply Exists.intro; refine ⟨fun _ => ?_, ?_⟩; (· fail); exact hK _ rfl))); try simp only [Act.put, List.setIfInBounds_toArray, List.set_cons_zero, List.set_cons_succ]))
      refine Od.wpO_call (by simp only [List.getElem?_toArray, List.getElem?_cons_succ, List.getElem?_cons_zero] <;> rfl) rfl ?_
      intro QS hQS
      go_wp2_with fail
      go_at_call 39
      (with_reducible refine ((H4.out _ _ _ _ false gw3 cw3_2_0 cw3_2_1 (nf_f _) (nf_f _) (by simp))).mono ?_)
      rintro e w4 ⟨rfl, hw4⟩
      go_wp2_with fail
      apply Exists.intro
      refine ⟨?_, hw4, ?_⟩
      · simp only [Act.put, List.setIfInBounds_toArray, List.set_cons_zero, List.set_cons_succ]; rfl
      have cw4_0_0 := ci hw4 (W.heap.size) 0 k (by go_simp)
      have cw4_0_1 := cg hw4 (W.heap.size) 1 (.slice ad n cap) (by go_simp)
      have cw4_1_0 := ci hw4 (W.heap.size + 1) 0 kq (by go_simp)
      have cw4_1_1 := ci hw4 (W.heap.size + 1) 1 qlx (by go_simp)
      have cw4_1_2 := ci hw4 (W.heap.size + 1) 2 qly (by go_simp)
      have cw4_1_3 := ci hw4 (W.heap.size + 1) 3 qhx (by go_simp)
      have cw4_1_4 := ci hw4 (W.heap.size + 1) 4 qhy (by go_simp)
      have cw4_1_5 := cg hw4 (W.heap.size + 1) 5 (.slice bd m bcap) (by go_simp)
      have gw4 : Gr W w4 := Gr.trans (by have gg := gw3; have gs := gg.size; go_grown) hw4
      clear gw3 zw3_0 cw3_0_0 cw3_0_1 zw3_1 cw3_1_0 cw3_1_1 cw3_1_2 cw3_1_3 cw3_1_4 cw3_1_5 cw3_2_0 cw3_2_1
      clear hw4
      try simp only [Act.put, List.setIfInBounds_toArray, List.set_cons_zero, List.set_cons_succ]
      repeat (first | (refine Od.wpO_skip (by simp only [List.getElem?_toArray, List.getElem?_cons_succ, List.getElem?_cons_zero] <;> rfl) rfl ?_; simp only [Act.put, List.setIfInBounds_toArray, List.set_cons_zero, List.set_cons_succ]) | (refine Od.wpO_pure (by simp only [List.getElem?_toArray, List.getElem?_cons_succ, List.getElem?_cons_zero] <;> rfl) rfl ?_; apply Exists.intro; refine ⟨?_, ?_⟩; (· intro wx gx; obtain ⟨mx, rfl⟩ := spread_of_gr gx; clear gx; all_goals (apply Od.pAt_of_quiet; intro K hK; go_big_quiet_op; first | exact hK _ rfl | (apply Exists.intro; refine ⟨fun _ => ?_, ?_⟩; (· fail); exact hK _ rfl))); try simp only [Act.put, List.setIfInBounds_toArray, List.set_cons_zero, List.set_cons_succ]))
      refine Od.wpO_nil (hKQ _ _ ?_)
      clear hKQ KQ
      go_wp2_with fail
      go_ret
      exact ⟨rfl, gw4⟩
end
end Go.Proofs.YtfobmlgpjhghdaaGreatDoor
namespace Go.Proofs.YtfobmlgpjhghdaaGreatDoor
set_option linter.unusedVariables false
set_option linter.unusedSimpArgs false
open Go.ChangeShapes Go.WideShapes Go.ChangeAt Go.RowKit
theorem boxN_0 {lx ly hx hy : Int} : boxN lx ly hx hy = 0 ↔ boxB lx ly hx hy = true := by
  unfold boxN boxB
  cases nearB lx ly <;> cases nearB hx hy <;> cases decide (lx ≤ hx) <;> cases decide (ly ≤ hy) <;> simp
section
variable {k : Int} {v : Value} {lx ly hx hy px py : Int}
set_option maxHeartbeats 2000000 in
set_option maxRecDepth 100000 in
theorem c_FarB (W : World) (h : FrTo W k v lx ly hx hy) (hb : boxB lx ly hx hy = true) (hp : nearB px py = true) :
    Calls Tryz.prog 46 #[.agg #[.int .i64 k, v], .agg #[.int .i64 px, .int .i64 py]] W fun e w' => e = .returned (.agg #[.int .u64 0, .int .u64 (distZ lx ly hx hy px py), .int .u64 1]) ∧ Gr W w' := by
  have A1 := fun w => c_Dist lx ly hx hy px py w ⟨hb, hp⟩
  generalize distZ lx ly hx hy px py = z at A1 ⊢
  obtain ⟨hk, ⟨ad, n, cap, rfl⟩, A2⟩ := h
  have k4 : (k != 4) = true := by simp; omega
  have H1 := Lib.hid A1
  have H2 := Lib.hid A2
  clear A1 A2
  clear hk hb hp
  go_enter Tryz.func46, Tryz.ntmps46
  go_wp2_with fail
  generalize hhw0 : ((W.alloc (.cells #[.int .i64 k, .slice ad n cap] 24)).alloc (.cells #[.int .i64 px, .int .i64 py] 26)).alloc (.cells #[.int .u64 0, .int .u64 0, .int .u64 0] 42) = w0
  have cw0_0_0 : w0.cell? ⟨W.heap.size, 0, none⟩ = some (.int .i64 k) := by subst hhw0; go_simp
  have cw0_0_1 : w0.cell? ⟨W.heap.size, 1, none⟩ = some (.slice ad n cap) := by subst hhw0; go_simp
  have zw0_0 := zb cw0_0_0
  have cw0_1_0 : w0.cell? ⟨W.heap.size + 1, 0, none⟩ = some (.int .i64 px) := by subst hhw0; go_simp
  have cw0_1_1 : w0.cell? ⟨W.heap.size + 1, 1, none⟩ = some (.int .i64 py) := by subst hhw0; go_simp
  have zw0_1 := zb cw0_1_0
  have cw0_2_0 : w0.cell? ⟨W.heap.size + 1 + 1, 0, none⟩ = some (.int .u64 0) := by subst hhw0; go_simp
  have fw0_2_0 : w0.frozen? ⟨W.heap.size + 1 + 1, 0, none⟩ = false := by subst hhw0; go_simp
  have cw0_2_1 : w0.cell? ⟨W.heap.size + 1 + 1, 1, none⟩ = some (.int .u64 0) := by subst hhw0; go_simp
  have fw0_2_1 : w0.frozen? ⟨W.heap.size + 1 + 1, 1, none⟩ = false := by subst hhw0; go_simp
  have cw0_2_2 : w0.cell? ⟨W.heap.size + 1 + 1, 2, none⟩ = some (.int .u64 0) := by subst hhw0; go_simp
  have fw0_2_2 : w0.frozen? ⟨W.heap.size + 1 + 1, 2, none⟩ = false := by subst hhw0; go_simp
  have zw0_2 := zb cw0_2_0
  have gw0 : Gr W w0 := by subst hhw0; go_grown
  clear hhw0
  go_wp2_with fail
  refine Hd.wp_region_tail 4 (by kernel_rfl) (by kernel_rfl) ?_
  intro KQ hKQ
  repeat (first | (refine Hd.wpG_skip (by decide) rfl ?_; simp only [Act.put, List.setIfInBounds_toArray, List.set_cons_zero, List.set_cons_succ]) | (refine Hd.wpG_want (by decide) rfl ?_; apply Exists.intro; refine ⟨?_, ?_⟩; (· intro wx gx; (obtain ⟨mx, rfl⟩ := gx); all_goals (apply Hd.gAt_of_quiet; intro K hK; go_big_quiet_op; first | exact hK _ rfl | (apply Exists.intro; refine ⟨fun _ => ?_, ?_⟩; (· (first | (go_at_call 36; first | ((with_reducible refine ((H2.out _ (Gr.trans (Gr.trans gw0 (gr_spread _ _)) (gr_spread _ _)))).mono ?_); rintro e w' ⟨rfl, hg⟩; exact ⟨rfl, spread_gr hg⟩)) | (go_at_call 73; first | ((with_reducible refine ((H1.out _)).mono ?_); rintro e w' ⟨rfl, hg⟩; exact ⟨rfl, spread_gr hg⟩)))); exact hK _ rfl))); try simp only [Act.put, List.setIfInBounds_toArray, List.set_cons_zero, List.set_cons_succ]))
  refine Hd.wpG_nil (hKQ _ ?_)
  clear hKQ KQ
  intro w1 hhw1
  have hw1 := Hd.gr_of_spread hhw1
  have cw1_2_0 := cu hw1 (W.heap.size + 1 + 1) 0 0 (by go_simp)
  have fw1_2_0 := fq hw1 (W.heap.size + 1 + 1) 0 (.int .u64 0) (by go_simp) (by go_simp)
  have cw1_2_1 := cu hw1 (W.heap.size + 1 + 1) 1 0 (by go_simp)
  have fw1_2_1 := fq hw1 (W.heap.size + 1 + 1) 1 (.int .u64 0) (by go_simp) (by go_simp)
  have cw1_2_2 := cu hw1 (W.heap.size + 1 + 1) 2 0 (by go_simp)
  have fw1_2_2 := fq hw1 (W.heap.size + 1 + 1) 2 (.int .u64 0) (by go_simp) (by go_simp)
  have gw1 : Gr W w1 := Gr.trans (by have gg := gw0; have gs := gg.size; go_grown) hw1
  clear hw1 hhw1 gw0 zw0_0 cw0_0_0 cw0_0_1 zw0_1 cw0_1_0 cw0_1_1 zw0_2 cw0_2_0 fw0_2_0 cw0_2_1 fw0_2_1 cw0_2_2 fw0_2_2
  go_wp2_with fail
  refine bodyPost_ret (v := .agg #[.int .u64 0, .int .u64 z, .int .u64 1]) (by simp [results, Tryz.results46, go_sem, *]) rfl ⟨rfl, by go_grown⟩
end
def BL (W : World) (k : Int) (v : Value) (lx ly hx hy : Int) : Prop := FrTo W k v lx ly hx hy ∧ ∃ n X Y, Pts W v n X Y ∧ objC k n X Y = boxN lx ly hx hy
theorem bl_gr {a b : World} {k : Int} {v : Value} {lx ly hx hy : Int} (h : BL a k v lx ly hx hy) (g : Gr a b) : BL b k v lx ly hx hy := by
  obtain ⟨h1, n, X, Y, h2, h3⟩ := h
  exact ⟨frTo_gr h1 g, n, X, Y, pts_gr h2 g, h3⟩
def maV (lx ly hx hy kq qlx qly qhx qhy : Int) (m : Nat) (P Q : Nat → Int) : Bool := decide (boxN lx ly hx hy = 0) && decide (qC kq qlx qly qhx qhy m P Q = 0) && msV lx ly hx hy kq qlx qly qhx qhy m P Q
theorem c_MatchO {k lx ly hx hy : Int} {v : Value} {m : Nat} {P Q : Nat → Int} {u : Value} (kq qlx qly qhx qhy : Int) (W : World) (hE : ErrT W) (h : BL W k v lx ly hx hy) (hu : Pts W u m P Q) :
    Calls Tryz.prog 13 #[.agg #[.int .i64 k, v], qryV kq qlx qly qhx qhy u] W fun e w' => e = .returned (.bool (maV lx ly hx hy kq qlx qly qhx qhy m P Q)) ∧ Gr W w' := by
  obtain ⟨hF, n, X, Y, hp, hc⟩ := h
  have A1 : ∀ w, Gr W w → Calls Tryz.prog 34 #[.agg #[.int .i64 k, v]] w fun e w' => ∃ x, e = .returned x ∧ WErr objectS w' x k (boxN lx ly hx hy) ∧ Gr w w' := fun w g => by have C := c_relCheck k w (pts_gr hp g); rw [hc] at C; exact C
  have A2 : ∀ w, Gr W w → Calls Tryz.prog 40 #[qryV kq qlx qly qhx qhy u] w fun e w' => ∃ x, e = .returned x ∧ WErr queryS w' x kq (qC kq qlx qly qhx qhy m P Q) ∧ Gr w w' := fun w g => c_CheckQuery kq qlx qly qhx qhy w (pts_gr hu g)
  have A3 : qC kq qlx qly qhx qhy m P Q = 0 → ∀ w, Gr W w → Calls Tryz.prog 41 #[.agg #[.int .i64 k, v], qryV kq qlx qly qhx qhy u] w fun e w' => e = .returned (.bool (msV lx ly hx hy kq qlx qly qhx qhy m P Q)) ∧ Gr w w' := fun hd w g => c_MatchesB kq qlx qly qhx qhy w (frTo_gr hF g) (pts_gr hu g) (fun h4 => by unfold qC at hd; rw [if_neg (by omega), if_neg (by omega), if_pos h4] at hd; exact hd)
  obtain ⟨ad, cap, _, _, rfl, -⟩ := hp
  obtain ⟨bd, bcap, _, _, rfl, -⟩ := hu
  exact match_core kq qlx qly qhx qhy ad bd n cap m bcap _ _ _ W hE A1 A2 (fun _ hd => A3 hd)
end Go.Proofs.YtfobmlgpjhghdaaGreatDoor
