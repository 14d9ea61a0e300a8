import Derived.Test.YtpomllpplpalkaaGreatDoorGk
import Derived.Test.YtpomllpplpalkaaGreatDoorCp
import Derived.Test.YtpomllpplpalkaaGreatDoorOd
/- errors that wrap errors: errors.Is, the numbers of errors, an error held against a number, an op and an id -/
namespace Go.Proofs.YtpomllpplpalkaaGreatDoor
set_option linter.unusedVariables false
open Go.ChangeShapes Go.WideShapes Go.ChangeAt Go.RowKit

def EAt (w : World) (k : Int) : Nat → Value → Prop
  | 0, v => v = .iface 107 (.int .i64 k)
  | d + 1, v => ∃ B u, v = .iface 108 (.pointer (some ⟨B, 0, none⟩)) ∧ w.cell? ⟨B, 2, none⟩ = some u ∧ EAt w k d u
theorem eAt_gr {a b : World} {k : Int} : ∀ {d : Nat} {v : Value}, EAt a k d v → Gr a b → EAt b k d v
  | 0, _, h, _ => h
  | _ + 1, _, ⟨B, u, h1, h2, h3⟩, g => ⟨B, u, h1, cell_gr g h2, eAt_gr h3 g⟩
theorem eAt_form {w : World} {k : Int} {d : Nat} {v : Value} (h : EAt w k d v) : (∃ x, v = .iface 107 x) ∨ ∃ x, v = .iface 108 x := by
  cases d with
  | zero => exact Or.inl ⟨_, h⟩
  | succ d => obtain ⟨B, u, rfl, _⟩ := h; exact Or.inr ⟨_, rfl⟩
theorem faultAt_eat {w : World} {B : Nat} {op : ByteArray} {id k : Int} (h : FaultAt w B op id k) : EAt w k 1 (.iface 108 (.pointer (some ⟨B, 0, none⟩))) := ⟨B, _, rfl, h.2.2, rfl⟩
def WErr (op : ByteArray) (w : World) (v : Value) (id : Int) (k : Nat) : Prop := (v = .nilIface ∧ k = 0) ∨ ∃ B u d, v = .iface 108 (.pointer (some ⟨B, 0, none⟩)) ∧ 1 ≤ k ∧ k ≤ 15 ∧ w.cell? ⟨B, 0, none⟩ = some (.string op) ∧ w.cell? ⟨B, 1, none⟩ = some (.int .i64 id) ∧ w.cell? ⟨B, 2, none⟩ = some u ∧ EAt w k d u
def OErr (w : World) (v : Value) (k : Nat) : Prop := (v = .nilIface ∧ k = 0) ∨ (1 ≤ k ∧ k ≤ 15 ∧ ∃ d, EAt w k d v)
theorem oerr_aerr {op : ByteArray} {w : World} {v : Value} {id k : Nat} (h : AErr op w v id k) : OErr w v k := by
  rcases h with h | ⟨B, rfl, h1, h2, h3⟩
  · exact Or.inl h
  · exact Or.inr ⟨h1, h2, 1, faultAt_eat h3⟩
theorem oerr_werr {op : ByteArray} {w : World} {v : Value} {id : Int} {k : Nat} (h : WErr op w v id k) : OErr w v k := by
  rcases h with h | ⟨B, u, d, h1, h2, h3, h4, h5, h6, h7⟩
  · exact Or.inl h
  · exact Or.inr ⟨h2, h3, d + 1, B, u, h1, h6, h7⟩
set_option maxHeartbeats 2000000 in
set_option maxRecDepth 100000 in
theorem c_is_deep (d : Nat) (v : Value) (i k : Int) (w : World) (h : EAt w i d v) : Calls Tryz.prog 99 #[v, .iface 107 (.int .i64 k), .bool true] w fun e w' => e = .returned (.bool (decide (i = k))) ∧ Gr w w' := by
  have nI := is_noIs
  have nU := is_noUnwrap
  have nV := is_noUnwraps
  have fI := isF_noIs
  have fU := isF_hasUnwrap
  have heq := is_eql i k
  have hty := fun (x : Value) => run_eql_iface_types (P := Tryz.prog) 108 107 x (.int .i64 k) Tryz.underlying28 (by decide)
  have hd : (i == k) = decide (i = k) := by rw [Bool.eq_iff_iff]; simp
  rw [hd] at heq
  generalize decide (i = k) = r at heq ⊢
  clear hd
  go_enter Tryz.func99, Tryz.ntmps99
  go_wp2_with fail
  go_loopg [0] d (fun n x wr => EAt w i n x ∧ Gr w wr)
  case atStart => exact ⟨h, by go_grown⟩
  case round =>
    obtain ⟨hx, gwr⟩ := hrel
    clear h
    cases gk with
    | zero =>
      obtain rfl := hx
      cases r
      all_goals
        go_wp2
        go_ret
        exact ⟨rfl, by have gg := gwr; have gs := gg.size; go_grown⟩
    | succ n =>
      obtain ⟨B, u, rfl, hc, hu⟩ := hx
      have hc2 := cell_gr gwr hc
      have HU := Lib.hid hu
      have hB := World.block_lt_of_cell? _ _ hc2
      clear hc
      rcases eAt_form hu with ⟨x, rfl⟩ | ⟨x, rfl⟩
      all_goals
        clear hu
        go_wp2
        go_roundg n
        case measure => omega
        case rel => exact ⟨HU.out, by have gg := gwr; have gs := gg.size; go_grown⟩
set_option maxHeartbeats 2000000 in
set_option maxRecDepth 100000 in
theorem c_Is_deep (d : Nat) (v : Value) (i k : Int) (w : World) (h : EAt w i d v) : Calls Tryz.prog 62 #[v, .iface 107 (.int .i64 k)] w fun e w' => e = .returned (.bool (decide (i = k))) ∧ Gr w w' := by
  have tT := is_typeOf (.int .i64 k)
  have cT := is_comparable
  generalize Tryz.prog.globals.size = n at tT cT
  have A1 := fun wr (g : Gr w wr) => c_is_deep d v i k wr (eAt_gr h g)
  generalize decide (i = k) = r at A1 ⊢
  rcases eAt_form h with ⟨x, rfl⟩ | ⟨x, rfl⟩
  all_goals
    have H1 := Lib.hid A1
    clear A1
    clear h
    go_enter Tryz.func62, Tryz.ntmps62
    go_wp2_with (go_at_call 99; (with_reducible refine (H1.out _ (by go_grown)).mono ?_); rintro e w1 ⟨rfl, g1⟩)
    go_ret
    exact ⟨rfl, Gr.trans (by go_grown) g1⟩
theorem c_Code_deep {v : Value} {k d : Nat} (hk : 1 ≤ k ∧ k ≤ 15) (w : World) (h : EAt w k d v) : Calls Tryz.prog 19 #[v] w fun e w' => e = .returned (.int .i64 k) ∧ Gr w w' := by
  have A : ∀ (i : Nat) wr, Gr w wr → Calls Tryz.prog 62 #[v, .iface 107 (.int .i64 i)] wr fun e w' => e = .returned (.bool (decide (k = i))) ∧ Gr wr w' := fun i wr g => by
    have C := c_Is_deep d v k i wr (eAt_gr h g)
    rwa [show decide ((k : Int) = (i : Int)) = decide (k = i) by rw [decide_eq_decide]; omega] at C
  rcases eAt_form h with ⟨x, rfl⟩ | ⟨x, rfl⟩
  · exact code_core _ _ k hk w (Or.inr rfl) A
  · exact code_core _ _ k hk w (Or.inl rfl) A
theorem c_Code_oerr {v : Value} {k : Nat} (w : World) (h : OErr w v k) : Calls Tryz.prog 19 #[v] w fun e w' => e = .returned (.int .i64 k) ∧ Gr w w' := by
  rcases h with ⟨rfl, rfl⟩ | ⟨h1, h2, d, h⟩
  · exact c_Code_nil2 w
  · exact c_Code_deep ⟨h1, h2⟩ w h
set_option maxHeartbeats 4000000 in
set_option maxRecDepth 100000 in
theorem c_AlIs_hitW (b d : Nat) (u : Value) (op : ByteArray) (id : Int) (k : Nat) (hk : 1 ≤ k ∧ k ≤ 15) (W : World) (hE : ErrT W) (h0 : W.cell? ⟨b, 0, none⟩ = some (.string op)) (h1 : W.cell? ⟨b, 1, none⟩ = some (.int .i64 id)) (h2 : W.cell? ⟨b, 2, none⟩ = some u) (h3 : EAt W k d u) :
    Calls Tryz.prog 14 #[.iface 108 (.pointer (some ⟨b, 0, none⟩)), .int .i64 k, .string op, .int .i64 id] W fun e w' => e = .returned (.bool true) ∧ Gr W w' := by
  have H1 := Lib.hid (c_Code_deep (v := .iface 108 (.pointer (some ⟨b, 0, none⟩))) (d := d + 1) hk W ⟨b, u, rfl, h2, h3⟩)
  have hb := World.block_lt_of_cell? _ _ h0
  have t1 : ((k : Int) == 0) = false := by simp; omega
  have t2 : (k == 0) = false := by simp; omega
  have HH := Lib.hid (And.intro hE (And.intro h0 h1))
  clear hE h0 h1 h2 h3 hk
  go_enter Tryz.func14, Tryz.ntmps14
  go_wp2_with fail
  go_at_call 19
  refine ((H1.out)).mono ?_
  rintro e w1 ⟨rfl, hw1⟩
  have gw1 : Gr W w1 := Gr.trans (by go_grown) hw1
  clear hw1
  have hx : (w1.alloc (.cells #[.pointer none] 108)).cell? ⟨w1.heap.size, 0, none⟩ = some (.pointer none) := by go_simp
  have hy : (w1.alloc (.cells #[.pointer none] 108)).frozen? ⟨w1.heap.size, 0, none⟩ = false := by go_simp
  have A := as_hit ⟨b, 0, none⟩ ⟨w1.heap.size, 0, none⟩ (.pointer none) (w1.alloc (.cells #[.pointer none] 108)) (errT_gr HH.out.1 (by have gg := gw1; have gs := gg.size; go_grown)) hx hy
  have H2 := Lib.hid A
  clear A hx hy
  go_wp2_with fail
  go_at_call 58
  refine H2.out.mono ?_
  rintro e w2 ⟨rfl, wx, gx, rfl⟩
  have gWx : Gr W wx := Gr.trans (by have gg := gw1; have gs := gg.size; go_grown) gx
  have sz := gx.size
  have F0 := cell_gr gWx HH.out.2.1
  have F1 := cell_gr gWx HH.out.2.2
  have hb1 : b < w1.heap.size := Nat.lt_of_lt_of_le hb gw1.size
  have hz : w1.heap.size < wx.heap.size := by simp at sz; omega
  have c0 : wx.cell? ⟨w1.heap.size, 0, none⟩ = some (.pointer none) := cell_gr gx (by go_simp)
  clear gx sz H2 H1
  go_wp2_with fail
  go_ret
  exact ⟨rfl, by have gg := gWx; have gs := gg.size; have g1 := gw1.size; go_grown⟩
theorem c_AlIs_werr {op : ByteArray} {v : Value} {id : Int} {k : Nat} (W : World) (hE : ErrT W) (h : WErr op W v id k) : Calls Tryz.prog 14 #[v, .int .i64 k, .string op, .int .i64 id] W fun e w' => e = .returned (.bool true) ∧ Gr W w' := by
  rcases h with ⟨rfl, rfl⟩ | ⟨B, u, d, rfl, h2, h3, h4, h5, h6, h7⟩
  · exact c_AlIs_nil op id W
  · exact c_AlIs_hitW B d u op id k ⟨h2, h3⟩ W hE h4 h5 h6 h7
end Go.Proofs.YtpomllpplpalkaaGreatDoor
/- what objects may be: rel.refusal, told, Check; the document's -/
namespace Go.Proofs.YtpomllpplpalkaaGreatDoor
set_option linter.unusedVariables false
set_option linter.unusedSimpArgs false
open Go.ChangeShapes Go.WideShapes Go.ChangeAt Go.RowKit

def boxN (lx ly hx hy : Int) : Nat := if nearB lx ly && nearB hx hy then (if decide (lx ≤ hx) && decide (ly ≤ hy) then 0 else 1) else 2
theorem boxN_code (lx ly hx hy : Int) : boxCode lx ly hx hy = (boxN lx ly hx hy : Nat) := by
  unfold boxCode boxN
  split
  · split <;> rfl
  · rfl
theorem boxN_err (w : World) (lx ly hx hy : Int) : OErr w (boxErr lx ly hx hy) (boxN lx ly hx hy) := by
  unfold boxErr boxN
  split
  · split
    · exact Or.inl ⟨rfl, rfl⟩
    · exact Or.inr ⟨by omega, by omega, 0, rfl⟩
  · exact Or.inr ⟨by omega, by omega, 0, rfl⟩
def objC (k : Int) (n : Nat) (X Y : Nat → Int) : Nat :=
  if k = 4 then (Rg.ringC n X Y).1
  else if k = 3 then (if n = 2 then boxN (X 0) (Y 0) (X 1) (Y 1) else 3)
  else if k = 1 then (if n = 1 then boxN (X 0) (Y 0) (X 0) (Y 0) else 3)
  else if k = 2 then (if n = 1 then boxN (X 0) 0 (Y 0) 0 else 3)
  else 5
theorem objC_4 {n : Nat} {X Y : Nat → Int} : objC 4 n X Y = (Rg.ringC n X Y).1 := by unfold objC; rw [if_pos rfl]
theorem objC_3 {n : Nat} {X Y : Nat → Int} : objC 3 n X Y = if n = 2 then boxN (X 0) (Y 0) (X 1) (Y 1) else 3 := by unfold objC; rw [if_neg (by omega), if_pos rfl]
theorem objC_1 {n : Nat} {X Y : Nat → Int} : objC 1 n X Y = if n = 1 then boxN (X 0) (Y 0) (X 0) (Y 0) else 3 := by unfold objC; rw [if_neg (by omega), if_neg (by omega), if_pos rfl]
theorem objC_2 {n : Nat} {X Y : Nat → Int} : objC 2 n X Y = if n = 1 then boxN (X 0) 0 (Y 0) 0 else 3 := by unfold objC; rw [if_neg (by omega), if_neg (by omega), if_neg (by omega), if_pos rfl]
theorem objC_x {k : Int} {n : Nat} {X Y : Nat → Int} (h4 : k ≠ 4) (h3 : k ≠ 3) (h1 : k ≠ 1) (h2 : k ≠ 2) : objC k n X Y = 5 := by unfold objC; rw [if_neg h4, if_neg h3, if_neg h1, if_neg h2]
def ObjTo (W : World) (c : Nat) (e : Ending) (w' : World) : Prop := ∃ u, e = .returned u ∧ OErr w' u c ∧ Gr W w'
theorem errno_one (w : World) (k : Nat) (h : 1 ≤ k ∧ k ≤ 15) : OErr w (.iface 107 (.int .i64 k)) k := Or.inr ⟨h.1, h.2, 0, rfl⟩

theorem pts_at0 {w : World} {ad : Option Addr} {n cap : Nat} {X Y : Nat → Int} (h : Pts w (.slice ad n cap) n X Y) (h1 : 1 ≤ n) : ∃ B off, ad = some ⟨B, off, none⟩ ∧ B < w.heap.size ∧ w.cell? ⟨B, off, none⟩ = some (.int .i64 (X 0)) ∧ w.cell? ⟨B, off + 1, none⟩ = some (.int .i64 (Y 0)) ∧ (2 ≤ n → w.cell? ⟨B, off + 2, none⟩ = some (.int .i64 (X 1)) ∧ w.cell? ⟨B, off + 3, none⟩ = some (.int .i64 (Y 1))) := by
  obtain ⟨ad', cap', B, off, e, _, _, q3, q4⟩ := h
  cases e
  obtain ⟨k0, k1⟩ := q4 0 (by omega)
  rw [Nat.zero_mul, Nat.add_zero] at k0 k1
  exact ⟨B, off, q3 (by omega), World.block_lt_of_cell? _ _ k0, k0, k1, fun h2 => q4 1 (by omega)⟩
set_option maxHeartbeats 2000000 in
set_option maxRecDepth 100000 in
theorem c_frame_1 (x y : Int) (B off cap : Nat) (W : World) (p0 : W.cell? ⟨B, off, none⟩ = some (.int .i64 x)) (p1 : W.cell? ⟨B, off + 1, none⟩ = some (.int .i64 y)) (hB : B < W.heap.size) :
    Calls Tryz.prog 110 #[.agg #[.int .i64 1, .slice (some ⟨B, off, none⟩) 1 cap]] W fun e w' => e = .returned (.agg #[.int .i64 x, .int .i64 y, .int .i64 x, .int .i64 y]) ∧ Gr W w' := by
  go_enter Tryz.func110, Tryz.ntmps110
  go_wp2_with fail
  generalize hhw0 : (W.alloc (.cells #[.int .i64 1, .slice (some ⟨B, off, none⟩) 1 cap] 34)).alloc (.cells #[.int .i64 0, .int .i64 0, .int .i64 0, .int .i64 0] 60) = w0
  have cw0_0_0 : w0.cell? ⟨W.heap.size, 0, none⟩ = some (.int .i64 1) := by subst hhw0; go_simp
  have cw0_0_1 : w0.cell? ⟨W.heap.size, 1, none⟩ = some (.slice (some ⟨B, off, none⟩) 1 cap) := by subst hhw0; go_simp
  have zw0_0 : W.heap.size < w0.heap.size := World.block_lt_of_cell? _ _ cw0_0_0
  have cw0_1_0 : w0.cell? ⟨W.heap.size + 1, 0, none⟩ = some (.int .i64 0) := by subst hhw0; go_simp
  have fw0_1_0 : w0.frozen? ⟨W.heap.size + 1, 0, none⟩ = false := by subst hhw0; go_simp
  have cw0_1_1 : w0.cell? ⟨W.heap.size + 1, 1, none⟩ = some (.int .i64 0) := by subst hhw0; go_simp
  have fw0_1_1 : w0.frozen? ⟨W.heap.size + 1, 1, none⟩ = false := by subst hhw0; go_simp
  have cw0_1_2 : w0.cell? ⟨W.heap.size + 1, 2, none⟩ = some (.int .i64 0) := by subst hhw0; go_simp
  have fw0_1_2 : w0.frozen? ⟨W.heap.size + 1, 2, none⟩ = false := by subst hhw0; go_simp
  have cw0_1_3 : w0.cell? ⟨W.heap.size + 1, 3, none⟩ = some (.int .i64 0) := by subst hhw0; go_simp
  have fw0_1_3 : w0.frozen? ⟨W.heap.size + 1, 3, none⟩ = false := by subst hhw0; go_simp
  have zw0_1 : W.heap.size + 1 < w0.heap.size := World.block_lt_of_cell? _ _ cw0_1_0
  have gw0 : Gr W w0 := by subst hhw0; go_grown
  clear hhw0
  have q0 := cell_gr gw0 p0
  have q1 := cell_gr gw0 p1
  clear p0 p1
  go_wp2_with fail
  refine Hd.wp_region_tail 9 (by kernel_rfl) (by kernel_rfl) ?_
  intro KQ hKQ
  repeat (first | (refine Hd.wpG_skip (by decide) rfl ?_; simp only [Act.put, List.setIfInBounds_toArray, List.set_cons_zero, List.set_cons_succ]) | (refine Hd.wpG_want (by decide) rfl ?_; apply Exists.intro; refine ⟨?_, ?_⟩; (· intro wx gx; (obtain ⟨mx, rfl⟩ := gx); all_goals (apply Hd.gAt_of_quiet; intro K hK; go_big_quiet_op; first | exact hK _ rfl | (apply Exists.intro; refine ⟨fun _ => ?_, ?_⟩; (· fail); exact hK _ rfl))); try simp only [Act.put, List.setIfInBounds_toArray, List.set_cons_zero, List.set_cons_succ]))
  refine Hd.wpG_nil (hKQ _ ?_)
  clear hKQ KQ
  intro w1 hhw1
  have hw1 := Hd.gr_of_spread hhw1
  have cw1_0_0 : w1.cell? ⟨W.heap.size + 1, 0, none⟩ = some (.int .i64 0) := cell_gr hw1 (by go_simp)
  have fw1_0_0 : w1.frozen? ⟨W.heap.size + 1, 0, none⟩ = false := frozen_gr (v := .int .i64 0) hw1 (by go_simp) (by go_simp)
  have cw1_0_1 : w1.cell? ⟨W.heap.size + 1, 1, none⟩ = some (.int .i64 0) := cell_gr hw1 (by go_simp)
  have fw1_0_1 : w1.frozen? ⟨W.heap.size + 1, 1, none⟩ = false := frozen_gr (v := .int .i64 0) hw1 (by go_simp) (by go_simp)
  have cw1_0_2 : w1.cell? ⟨W.heap.size + 1, 2, none⟩ = some (.int .i64 0) := cell_gr hw1 (by go_simp)
  have fw1_0_2 : w1.frozen? ⟨W.heap.size + 1, 2, none⟩ = false := frozen_gr (v := .int .i64 0) hw1 (by go_simp) (by go_simp)
  have cw1_0_3 : w1.cell? ⟨W.heap.size + 1, 3, none⟩ = some (.int .i64 0) := cell_gr hw1 (by go_simp)
  have fw1_0_3 : w1.frozen? ⟨W.heap.size + 1, 3, none⟩ = false := frozen_gr (v := .int .i64 0) hw1 (by go_simp) (by go_simp)
  have zw1_0 : W.heap.size + 1 < w1.heap.size := World.block_lt_of_cell? _ _ cw1_0_0
  have gw1 : Gr W w1 := Gr.trans (by have gg := gw0; have gs := gg.size; go_grown) hw1
  clear hw1 hhw1 gw0 zw0_0 cw0_0_0 cw0_0_1 zw0_1 cw0_1_0 fw0_1_0 cw0_1_1 fw0_1_1 cw0_1_2 fw0_1_2 cw0_1_3 fw0_1_3
  go_wp2_with fail
  refine bodyPost_ret (v := .agg #[.int .i64 x, .int .i64 y, .int .i64 x, .int .i64 y]) (by simp [results, Tryz.results110, go_sem, *]) rfl ⟨rfl, by go_grown⟩
set_option maxHeartbeats 2000000 in
set_option maxRecDepth 100000 in
theorem c_frame_3 (x y z u : Int) (B off cap : Nat) (W : World) (p0 : W.cell? ⟨B, off, none⟩ = some (.int .i64 x)) (p1 : W.cell? ⟨B, off + 1, none⟩ = some (.int .i64 y)) (p2 : W.cell? ⟨B, off + 2, none⟩ = some (.int .i64 z)) (p3 : W.cell? ⟨B, off + 3, none⟩ = some (.int .i64 u)) (hB : B < W.heap.size) :
    Calls Tryz.prog 110 #[.agg #[.int .i64 3, .slice (some ⟨B, off, none⟩) 2 cap]] W fun e w' => e = .returned (.agg #[.int .i64 x, .int .i64 y, .int .i64 z, .int .i64 u]) ∧ Gr W w' := by
  go_enter Tryz.func110, Tryz.ntmps110
  go_wp2_with fail
  generalize hhw0 : (W.alloc (.cells #[.int .i64 3, .slice (some ⟨B, off, none⟩) 2 cap] 34)).alloc (.cells #[.int .i64 0, .int .i64 0, .int .i64 0, .int .i64 0] 60) = w0
  have cw0_0_0 : w0.cell? ⟨W.heap.size, 0, none⟩ = some (.int .i64 3) := by subst hhw0; go_simp
  have cw0_0_1 : w0.cell? ⟨W.heap.size, 1, none⟩ = some (.slice (some ⟨B, off, none⟩) 2 cap) := by subst hhw0; go_simp
  have zw0_0 : W.heap.size < w0.heap.size := World.block_lt_of_cell? _ _ cw0_0_0
  have cw0_1_0 : w0.cell? ⟨W.heap.size + 1, 0, none⟩ = some (.int .i64 0) := by subst hhw0; go_simp
  have fw0_1_0 : w0.frozen? ⟨W.heap.size + 1, 0, none⟩ = false := by subst hhw0; go_simp
  have cw0_1_1 : w0.cell? ⟨W.heap.size + 1, 1, none⟩ = some (.int .i64 0) := by subst hhw0; go_simp
  have fw0_1_1 : w0.frozen? ⟨W.heap.size + 1, 1, none⟩ = false := by subst hhw0; go_simp
  have cw0_1_2 : w0.cell? ⟨W.heap.size + 1, 2, none⟩ = some (.int .i64 0) := by subst hhw0; go_simp
  have fw0_1_2 : w0.frozen? ⟨W.heap.size + 1, 2, none⟩ = false := by subst hhw0; go_simp
  have cw0_1_3 : w0.cell? ⟨W.heap.size + 1, 3, none⟩ = some (.int .i64 0) := by subst hhw0; go_simp
  have fw0_1_3 : w0.frozen? ⟨W.heap.size + 1, 3, none⟩ = false := by subst hhw0; go_simp
  have zw0_1 : W.heap.size + 1 < w0.heap.size := World.block_lt_of_cell? _ _ cw0_1_0
  have gw0 : Gr W w0 := by subst hhw0; go_grown
  clear hhw0
  have q0 := cell_gr gw0 p0
  have q1 := cell_gr gw0 p1
  have q2 := cell_gr gw0 p2
  have q3 := cell_gr gw0 p3
  have q4 : w0.cell? ⟨B, off + 2 + 1, none⟩ = some (.int .i64 u) := q3
  clear p0 p1 p2 p3
  go_wp2_with fail
  refine Hd.wp_region_tail 9 (by kernel_rfl) (by kernel_rfl) ?_
  intro KQ hKQ
  repeat (first | (refine Hd.wpG_skip (by decide) rfl ?_; simp only [Act.put, List.setIfInBounds_toArray, List.set_cons_zero, List.set_cons_succ]) | (refine Hd.wpG_want (by decide) rfl ?_; apply Exists.intro; refine ⟨?_, ?_⟩; (· intro wx gx; (obtain ⟨mx, rfl⟩ := gx); all_goals (apply Hd.gAt_of_quiet; intro K hK; go_big_quiet_op; first | exact hK _ rfl | (apply Exists.intro; refine ⟨fun _ => ?_, ?_⟩; (· fail); exact hK _ rfl))); try simp only [Act.put, List.setIfInBounds_toArray, List.set_cons_zero, List.set_cons_succ]))
  refine Hd.wpG_nil (hKQ _ ?_)
  clear hKQ KQ
  intro w1 hhw1
  have hw1 := Hd.gr_of_spread hhw1
  have cw1_0_0 : w1.cell? ⟨W.heap.size + 1, 0, none⟩ = some (.int .i64 0) := cell_gr hw1 (by go_simp)
  have fw1_0_0 : w1.frozen? ⟨W.heap.size + 1, 0, none⟩ = false := frozen_gr (v := .int .i64 0) hw1 (by go_simp) (by go_simp)
  have cw1_0_1 : w1.cell? ⟨W.heap.size + 1, 1, none⟩ = some (.int .i64 0) := cell_gr hw1 (by go_simp)
  have fw1_0_1 : w1.frozen? ⟨W.heap.size + 1, 1, none⟩ = false := frozen_gr (v := .int .i64 0) hw1 (by go_simp) (by go_simp)
  have cw1_0_2 : w1.cell? ⟨W.heap.size + 1, 2, none⟩ = some (.int .i64 0) := cell_gr hw1 (by go_simp)
  have fw1_0_2 : w1.frozen? ⟨W.heap.size + 1, 2, none⟩ = false := frozen_gr (v := .int .i64 0) hw1 (by go_simp) (by go_simp)
  have cw1_0_3 : w1.cell? ⟨W.heap.size + 1, 3, none⟩ = some (.int .i64 0) := cell_gr hw1 (by go_simp)
  have fw1_0_3 : w1.frozen? ⟨W.heap.size + 1, 3, none⟩ = false := frozen_gr (v := .int .i64 0) hw1 (by go_simp) (by go_simp)
  have zw1_0 : W.heap.size + 1 < w1.heap.size := World.block_lt_of_cell? _ _ cw1_0_0
  have gw1 : Gr W w1 := Gr.trans (by have gg := gw0; have gs := gg.size; go_grown) hw1
  clear hw1 hhw1 gw0 zw0_0 cw0_0_0 cw0_0_1 zw0_1 cw0_1_0 fw0_1_0 cw0_1_1 fw0_1_1 cw0_1_2 fw0_1_2 cw0_1_3 fw0_1_3
  go_wp2_with fail
  refine bodyPost_ret (v := .agg #[.int .i64 x, .int .i64 y, .int .i64 z, .int .i64 u]) (by simp [results, Tryz.results110, go_sem, *]) rfl ⟨rfl, by go_grown⟩
set_option maxHeartbeats 2000000 in
set_option maxRecDepth 100000 in
theorem c_frame_2 (x y : Int) (B off cap : Nat) (W : World) (p0 : W.cell? ⟨B, off, none⟩ = some (.int .i64 x)) (p1 : W.cell? ⟨B, off + 1, none⟩ = some (.int .i64 y)) (hB : B < W.heap.size) :
    Calls Tryz.prog 110 #[.agg #[.int .i64 2, .slice (some ⟨B, off, none⟩) 1 cap]] W fun e w' => e = .returned (.agg #[.int .i64 x, .int .i64 0, .int .i64 y, .int .i64 0]) ∧ Gr W w' := by
  go_enter Tryz.func110, Tryz.ntmps110
  go_wp2_with fail
  refine bodyPost_ret (v := .agg #[.int .i64 x, .int .i64 0, .int .i64 y, .int .i64 0]) (by simp [results, Tryz.results110, go_sem, *]) rfl ⟨rfl, by go_grown⟩
set_option maxHeartbeats 2000000 in
set_option maxRecDepth 100000 in
theorem refusal_box (k : Int) (n cap : Nat) (ad : Option Addr) (lx ly hx hy : Int) (W : World) (hk : k = 1 ∧ n = 1 ∨ k = 2 ∧ n = 1 ∨ k = 3 ∧ n = 2)
    (A2 : ∀ w, Gr W w → Calls Tryz.prog 110 #[.agg #[.int .i64 k, .slice ad n cap]] w fun e w' => e = .returned (.agg #[.int .i64 lx, .int .i64 ly, .int .i64 hx, .int .i64 hy]) ∧ Gr w w') :
    Calls Tryz.prog 224 #[.agg #[.int .i64 k, .slice ad n cap]] W (ObjTo W (boxN lx ly hx hy)) := by
  have A1 := fun w => c_CheckBox lx ly hx hy w
  have E := fun w => boxN_err w lx ly hx hy
  obtain ⟨u, hu⟩ : ∃ u, u = boxErr lx ly hx hy := ⟨_, rfl⟩
  rw [← hu] at A1 E
  generalize boxN lx ly hx hy = c at E ⊢
  have H1 := Lib.hid A1
  have H2 := Lib.hid A2
  clear A1 A2
  have HE := Lib.hid E
  clear hu E
  rcases hk with ⟨rfl, rfl⟩ | ⟨rfl, rfl⟩ | ⟨rfl, rfl⟩
  all_goals
    go_enter Tryz.func224, Tryz.ntmps224
    go_wp2_with fail
    go_at_call 110
    refine ((H2.out _ (by go_grown))).mono ?_
    rintro e w1 ⟨rfl, hw1⟩
    have gw1 : Gr W w1 := Gr.trans (by go_grown) hw1
    clear hw1
    go_wp2_with fail
    go_at_call 148
    refine ((H1.out _)).mono ?_
    rintro e w2 ⟨rfl, hw2⟩
    have gw2 : Gr W w2 := Gr.trans (by have gg := gw1; have gs := gg.size; go_grown) hw2
    clear hw2 gw1
    go_wp2_with fail
    go_ret
    exact ⟨_, rfl, HE.out _, gw2⟩
set_option maxHeartbeats 2000000 in
set_option maxRecDepth 100000 in
theorem refusal_verts (k : Int) (n cap : Nat) (ad : Option Addr) (W : World) (hk : k = 1 ∧ n ≠ 1 ∨ k = 2 ∧ n ≠ 1 ∨ k = 3 ∧ n ≠ 2) :
    Calls Tryz.prog 224 #[.agg #[.int .i64 k, .slice ad n cap]] W (ObjTo W 3) := by
  have HE := Lib.hid (fun w => errno_one w 3 (by omega))
  rcases hk with ⟨rfl, h⟩ | ⟨rfl, h⟩ | ⟨rfl, h⟩
  · have t1 : ((n : Int) != 1) = true := by simp; omega
    have t2 : (n != 1) = true := by simp; omega
    clear h
    go_enter Tryz.func224, Tryz.ntmps224
    go_wp2_with fail
    go_ret
    exact ⟨_, rfl, HE.out _, by go_grown⟩
  · have t1 : ((n : Int) != 1) = true := by simp; omega
    have t2 : (n != 1) = true := by simp; omega
    clear h
    go_enter Tryz.func224, Tryz.ntmps224
    go_wp2_with fail
    go_ret
    exact ⟨_, rfl, HE.out _, by go_grown⟩
  · have t1 : ((n : Int) != 2) = true := by simp; omega
    have t2 : (n != 2) = true := by simp; omega
    clear h
    go_enter Tryz.func224, Tryz.ntmps224
    go_wp2_with fail
    go_ret
    exact ⟨_, rfl, HE.out _, by go_grown⟩
set_option maxHeartbeats 2000000 in
set_option maxRecDepth 100000 in
theorem refusal_kind (k : Int) (n cap : Nat) (ad : Option Addr) (W : World) (h4 : k ≠ 4) (h3 : k ≠ 3) (h1 : k ≠ 1) (h2 : k ≠ 2) :
    Calls Tryz.prog 224 #[.agg #[.int .i64 k, .slice ad n cap]] W (ObjTo W 5) := by
  have HE := Lib.hid (fun w => errno_one w 5 (by omega))
  have t1 : (k == 1) = false := by simp; omega
  have t2 : (k == 2) = false := by simp; omega
  have t3 : (k == 3) = false := by simp; omega
  have t4 : (k == 4) = false := by simp; omega
  clear h1 h2 h3 h4
  go_enter Tryz.func224, Tryz.ntmps224
  go_wp2_with fail
  go_ret
  exact ⟨_, rfl, HE.out _, by go_grown⟩
set_option maxHeartbeats 2000000 in
set_option maxRecDepth 100000 in
theorem refusal_ring {n : Nat} {X Y : Nat → Int} {v : Value} (W : World) (h : Pts W v n X Y) :
    Calls Tryz.prog 224 #[.agg #[.int .i64 4, v]] W (ObjTo W (Rg.ringC n X Y).1) := by
  have A1 : ∀ w, Gr W w → Calls Tryz.prog 149 #[v] w fun e w' => ∃ f, e = .returned f ∧ AErr ringS w' f (Rg.ringC n X Y).2 (Rg.ringC n X Y).1 ∧ Gr w w' := fun w g => c_ringCheck w (pts_gr h g)
  generalize (Rg.ringC n X Y).1 = c at A1 ⊢
  generalize (Rg.ringC n X Y).2 = id at A1
  obtain ⟨ad, cap, B, off, rfl, _⟩ := h
  have H1 := Lib.hid A1
  clear A1
  go_enter Tryz.func224, Tryz.ntmps224
  go_wp2_with fail
  go_at_call 149
  refine (H1.out _ (by go_grown)).mono ?_
  rintro e w1 ⟨x, rfl, hx, g1⟩
  have HX := Lib.hid hx
  clear hx
  go_wp2_with fail
  go_ret
  exact ⟨_, rfl, oerr_aerr HX.out, Gr.trans (by go_grown) g1⟩
theorem c_refusal {n : Nat} {X Y : Nat → Int} {v : Value} (k : Int) (W : World) (h : Pts W v n X Y) :
    Calls Tryz.prog 224 #[.agg #[.int .i64 k, v]] W (ObjTo W (objC k n X Y)) := by
  by_cases h4 : k = 4
  · subst h4; rw [objC_4]; exact refusal_ring W h
  obtain ⟨ad, cap, _, _, rfl, _⟩ := (show Pts W v n X Y from h)
  by_cases h3 : k = 3
  · subst h3
    rw [objC_3]
    by_cases hn : n = 2
    · rw [if_pos hn]
      subst hn
      refine refusal_box 3 2 cap ad _ _ _ _ W (Or.inr (Or.inr ⟨rfl, rfl⟩)) fun w g => ?_
      obtain ⟨B, off, rfl, hB, p0, p1, p2⟩ := pts_at0 (pts_gr h g) (by omega)
      exact c_frame_3 _ _ _ _ B off cap w p0 p1 (p2 (by omega)).1 (p2 (by omega)).2 hB
    · rw [if_neg hn]
      exact refusal_verts 3 n cap ad W (Or.inr (Or.inr ⟨rfl, hn⟩))
  by_cases h1 : k = 1
  · subst h1
    rw [objC_1]
    by_cases hn : n = 1
    · rw [if_pos hn]
      subst hn
      refine refusal_box 1 1 cap ad _ _ _ _ W (Or.inl ⟨rfl, rfl⟩) fun w g => ?_
      obtain ⟨B, off, rfl, hB, p0, p1, p2⟩ := pts_at0 (pts_gr h g) (by omega)
      exact c_frame_1 _ _ B off cap w p0 p1 hB
    · rw [if_neg hn]
      exact refusal_verts 1 n cap ad W (Or.inl ⟨rfl, hn⟩)
  by_cases h2 : k = 2
  · subst h2
    rw [objC_2]
    by_cases hn : n = 1
    · rw [if_pos hn]
      subst hn
      refine refusal_box 2 1 cap ad _ _ _ _ W (Or.inr (Or.inl ⟨rfl, rfl⟩)) fun w g => ?_
      obtain ⟨B, off, rfl, hB, p0, p1, p2⟩ := pts_at0 (pts_gr h g) (by omega)
      exact c_frame_2 _ _ B off cap w p0 p1 hB
    · rw [if_neg hn]
      exact refusal_verts 2 n cap ad W (Or.inr (Or.inl ⟨rfl, hn⟩))
  rw [objC_x h4 h3 h1 h2]
  exact refusal_kind k n cap ad W h4 h3 h1 h2
def WrTo (op : ByteArray) (W : World) (id : Int) (c : Nat) (e : Ending) (w' : World) : Prop := ∃ u, e = .returned u ∧ WErr op w' u id c ∧ Gr W w'
set_option maxHeartbeats 2000000 in
set_option maxRecDepth 100000 in
theorem c_told (op : ByteArray) (k : Int) (u : Value) (c : Nat) (W : World) (h : OErr W u c) :
    Calls Tryz.prog 107 #[.string op, .int .i64 k, u] W (WrTo op W k c) := by
  rcases h with ⟨rfl, rfl⟩ | ⟨h1, h2, d, h⟩
  · go_enter Tryz.func107, Tryz.ntmps107
    go_wp2_with fail
    go_ret
    exact ⟨_, rfl, Or.inl ⟨rfl, rfl⟩, by go_grown⟩
  · have H := Lib.hid (And.intro h1 (And.intro h2 h))
    rcases eAt_form h with ⟨x, rfl⟩ | ⟨x, rfl⟩
    all_goals
      clear h h1 h2
      go_enter Tryz.func107, Tryz.ntmps107
      go_wp2_with fail
      go_ret
      exact ⟨_, rfl, Or.inr ⟨_, _, d, rfl, H.out.1, H.out.2.1, by go_simp, by go_simp, by go_simp, eAt_gr H.out.2.2 (by go_grown)⟩, by go_grown⟩
abbrev objectS : ByteArray := ⟨#[111, 98, 106, 101, 99, 116]⟩
set_option maxHeartbeats 2000000 in
set_option maxRecDepth 100000 in
theorem c_relCheck {n : Nat} {X Y : Nat → Int} {v : Value} (k : Int) (W : World) (h : Pts W v n X Y) :
    Calls Tryz.prog 195 #[.agg #[.int .i64 k, v]] W (WrTo objectS W k (objC k n X Y)) := by
  have A1 : ∀ w, Gr W w → Calls Tryz.prog 224 #[.agg #[.int .i64 k, v]] w fun e w' => ∃ u, e = .returned u ∧ OErr w' u (objC k n X Y) ∧ Gr w w' := fun w g => c_refusal k w (pts_gr h g)
  generalize objC k n X Y = c at A1 ⊢
  have A2 : ∀ (w : World) (u : Value), OErr w u c → Calls Tryz.prog 107 #[.string objectS, .int .i64 k, u] w fun e w' => ∃ x, e = .returned x ∧ WErr objectS w' x k c ∧ Gr w w' := fun w u hu => c_told objectS k u c w hu
  obtain ⟨ad, cap, B, off, rfl, _⟩ := h
  have H1 := Lib.hid A1
  have H2 := Lib.hid A2
  clear A1 A2
  go_enter Tryz.func195, Tryz.ntmps195
  go_wp2_with fail
  try simp only [List.append]
  refine Od.wp_region_ord [(0, false), (1, false), (2, false), (3, true), (4, true), (5, false)] (by kernel_rfl) (by kernel_rfl) ?_
  intro w0 hw0 KQ hKQ
  have cw0_0_0 : w0.cell? ⟨W.heap.size, 0, none⟩ = some (.int .i64 k) := cell_gr hw0 (by go_simp)
  have cw0_0_1 : w0.cell? ⟨W.heap.size, 1, none⟩ = some (.slice ad n cap) := cell_gr hw0 (by go_simp)
  have zw0_0 : W.heap.size < w0.heap.size := World.block_lt_of_cell? _ _ cw0_0_0
  have gw0 : Gr W w0 := Gr.trans (by go_grown) hw0
  skip
  clear hw0
  repeat (first | (refine Od.wpO_skip (by simp only [List.getElem?_toArray, List.getElem?_cons_succ, List.getElem?_cons_zero] <;> rfl) rfl ?_; simp only [Act.put, List.setIfInBounds_toArray, List.set_cons_zero, List.set_cons_succ]) | (refine Od.wpO_pure (by simp only [List.getElem?_toArray, List.getElem?_cons_succ, List.getElem?_cons_zero] <;> rfl) rfl ?_; apply Exists.intro; refine ⟨?_, ?_⟩; (· intro wx gx; obtain ⟨mx, rfl⟩ := spread_of_gr gx; clear gx; all_goals (apply Od.pAt_of_quiet; intro K hK; go_big_quiet_op; first | exact hK _ rfl | (apply Exists.intro; refine ⟨fun _ => ?_, ?_⟩; (· fail); exact hK _ rfl))); try simp only [Act.put, List.setIfInBounds_toArray, List.set_cons_zero, List.set_cons_succ]))
  refine Od.wpO_call (by simp only [List.getElem?_toArray, List.getElem?_cons_succ, List.getElem?_cons_zero] <;> rfl) rfl ?_
  intro QS hQS
  go_wp2_with fail
  go_at_call 224
  (with_reducible refine ((H1.out _ gw0)).mono ?_)
  rintro e w1 ⟨u, rfl, hu, hw1⟩
  go_wp2_with fail
  apply Exists.intro
  refine ⟨?_, hw1, ?_⟩
  · simp only [Act.put, List.setIfInBounds_toArray, List.set_cons_zero, List.set_cons_succ]; rfl
  have cw1_0_0 : w1.cell? ⟨W.heap.size, 0, none⟩ = some (.int .i64 k) := cell_gr hw1 (by go_simp)
  have cw1_0_1 : w1.cell? ⟨W.heap.size, 1, none⟩ = some (.slice ad n cap) := cell_gr hw1 (by go_simp)
  have zw1_0 : W.heap.size < w1.heap.size := World.block_lt_of_cell? _ _ cw1_0_0
  have gw1 : Gr W w1 := Gr.trans (by have gg := gw0; have gs := gg.size; go_grown) hw1
  clear gw0 zw0_0 cw0_0_0 cw0_0_1
  clear hw1
  try simp only [Act.put, List.setIfInBounds_toArray, List.set_cons_zero, List.set_cons_succ]
  repeat (first | (refine Od.wpO_skip (by simp only [List.getElem?_toArray, List.getElem?_cons_succ, List.getElem?_cons_zero] <;> rfl) rfl ?_; simp only [Act.put, List.setIfInBounds_toArray, List.set_cons_zero, List.set_cons_succ]) | (refine Od.wpO_pure (by simp only [List.getElem?_toArray, List.getElem?_cons_succ, List.getElem?_cons_zero] <;> rfl) rfl ?_; apply Exists.intro; refine ⟨?_, ?_⟩; (· intro wx gx; obtain ⟨mx, rfl⟩ := spread_of_gr gx; clear gx; all_goals (apply Od.pAt_of_quiet; intro K hK; go_big_quiet_op; first | exact hK _ rfl | (apply Exists.intro; refine ⟨fun _ => ?_, ?_⟩; (· fail); exact hK _ rfl))); try simp only [Act.put, List.setIfInBounds_toArray, List.set_cons_zero, List.set_cons_succ]))
  refine Od.wpO_call (by simp only [List.getElem?_toArray, List.getElem?_cons_succ, List.getElem?_cons_zero] <;> rfl) rfl ?_
  intro QS hQS
  go_wp2_with fail
  go_at_call 107
  (with_reducible refine ((H2.out _ _ hu)).mono ?_)
  rintro e w2 ⟨x, rfl, hx, hw2⟩
  go_wp2_with fail
  apply Exists.intro
  refine ⟨?_, hw2, ?_⟩
  · simp only [Act.put, List.setIfInBounds_toArray, List.set_cons_zero, List.set_cons_succ]; rfl
  have cw2_0_0 : w2.cell? ⟨W.heap.size, 0, none⟩ = some (.int .i64 k) := cell_gr hw2 (by go_simp)
  have cw2_0_1 : w2.cell? ⟨W.heap.size, 1, none⟩ = some (.slice ad n cap) := cell_gr hw2 (by go_simp)
  have zw2_0 : W.heap.size < w2.heap.size := World.block_lt_of_cell? _ _ cw2_0_0
  have gw2 : Gr W w2 := Gr.trans (by have gg := gw1; have gs := gg.size; go_grown) hw2
  clear gw1 zw1_0 cw1_0_0 cw1_0_1
  clear hw2
  try simp only [Act.put, List.setIfInBounds_toArray, List.set_cons_zero, List.set_cons_succ]
  repeat (first | (refine Od.wpO_skip (by simp only [List.getElem?_toArray, List.getElem?_cons_succ, List.getElem?_cons_zero] <;> rfl) rfl ?_; simp only [Act.put, List.setIfInBounds_toArray, List.set_cons_zero, List.set_cons_succ]) | (refine Od.wpO_pure (by simp only [List.getElem?_toArray, List.getElem?_cons_succ, List.getElem?_cons_zero] <;> rfl) rfl ?_; apply Exists.intro; refine ⟨?_, ?_⟩; (· intro wx gx; obtain ⟨mx, rfl⟩ := spread_of_gr gx; clear gx; all_goals (apply Od.pAt_of_quiet; intro K hK; go_big_quiet_op; first | exact hK _ rfl | (apply Exists.intro; refine ⟨fun _ => ?_, ?_⟩; (· fail); exact hK _ rfl))); try simp only [Act.put, List.setIfInBounds_toArray, List.set_cons_zero, List.set_cons_succ]))
  refine Od.wpO_nil (hKQ _ _ ?_)
  clear hKQ KQ
  have HX := Lib.hid hx
  clear hx
  go_wp2_with fail
  go_ret
  exact ⟨_, rfl, HX.out, gw2⟩
end Go.Proofs.YtpomllpplpalkaaGreatDoor
