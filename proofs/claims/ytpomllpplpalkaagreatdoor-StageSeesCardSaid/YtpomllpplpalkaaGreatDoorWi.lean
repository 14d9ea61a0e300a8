/- model: what a map is, as a state; has, refusal, Apply where it is refused -/
import Derived.Test.YtpomllpplpalkaaGreatDoorWc
namespace Go.Proofs.YtpomllpplpalkaaGreatDoor
set_option linter.unusedVariables false
set_option linter.unusedSimpArgs false
open Go.ChangeShapes Go.WideShapes Go.ChangeAt Go.RowKit Go.Maps

structure MO where
  k : Int
  n : Nat
  X : Nat → Int
  Y : Nat → Int
abbrev zk (z : Int) : Lit := .int .i64 z
def i64R (z : Int) : Prop := -9223372036854775808 ≤ z ∧ z ≤ 9223372036854775807
theorem zk_of {z : Int} (h : i64R z) : keyOf Tryz.prog 3 (.int .i64 z) = some (zk z) := keyOf_int_mk Tryz.underlying3 (WalkArith.wf_i64 h)
theorem zk_ne {a b : Int} (h : a ≠ b) : zk a ≠ zk b := fun e => h (Lit.int.inj e).2
theorem zk_key (z : Int) : WideAt.IsKeyLit (zk z) := by simp [WideAt.IsKeyLit]
def ObjAt (w : World) (D : DataW Value) (z : Int) (o : MO) : Prop := Maps.has D (zk z) = true ∧ 0 < o.n ∧ o.n ≤ 1000 ∧ ∃ B c, (∀ y, D.atKey (zk z) y = .held (.agg #[.int .i64 o.k, .slice (some ⟨B, 0, none⟩) o.n c])) ∧ Pts w (.slice (some ⟨B, 0, none⟩) o.n c) o.n o.X o.Y ∧ Fr2 w B
def MAt (w : World) (D : DataW Value) (σ : Int → Option MO) : Prop := ∀ z, i64R z → (σ z = none → Maps.has D (zk z) = false) ∧ ∀ o, σ z = some o → ObjAt w D z o
def MdAt (w : World) (Q : Nat) (M : Option Nat) (σ : Int → Option MO) (N : Nat) : Prop := w.heap[Q]? = some (.cells #[.map M] 105 (0, 0)) ∧ (M = none → ∀ z, σ z = none) ∧ ∀ m, M = some m → ∃ D, w.ownsMap Tryz.prog 3 heldE m N D ∧ MAt w D σ
theorem cell_neQ {w : World} {B i Q : Nat} {x : Int} {M : Option Nat} {T : TypeId} (h : w.cell? ⟨B, i, none⟩ = some (.int .i64 x)) (hQ : w.heap[Q]? = some (.cells #[.map M] T (0, 0))) : B ≠ Q := by
  rintro rfl
  unfold World.cell? at h
  rw [hQ] at h
  cases i with
  | zero => simp at h
  | succ i => simp at h
theorem cell_neM {w : World} {B i m clock : Nat} {x : Int} {es : Array MapEntry} (h : w.cell? ⟨B, i, none⟩ = some (.int .i64 x)) (hm : w.heap[m]? = some (.map es clock)) : B ≠ m := by
  rintro rfl
  unfold World.cell? at h
  rw [hm] at h
  simp at h
theorem pts_c0 {w : World} {B n c : Nat} {X Y : Nat → Int} (hn : 0 < n) (h : Pts w (.slice (some ⟨B, 0, none⟩) n c) n X Y) : w.cell? ⟨B, 0, none⟩ = some (.int .i64 (X 0)) := by
  obtain ⟨ad, cap, B1, off, e, p1, p2, p3, p4⟩ := h
  simp only [Value.slice.injEq, true_and] at e
  obtain ⟨rfl, rfl⟩ := e
  have e3 := Option.some.inj (p3 hn)
  simp only [Addr.mk.injEq, and_true] at e3
  obtain ⟨rfl, rfl⟩ := e3
  exact (p4 0 hn).1
theorem mAt_kx {S : Nat → Prop} {a b : World} {D : DataW Value} {σ : Int → Option MO} (h : MAt a D σ) (K : Kx S a b) (hS : ∀ B x, a.cell? ⟨B, 0, none⟩ = some (.int .i64 x) → ¬ S B) : MAt b D σ := fun z hz => ⟨(h z hz).1, fun o ho => by
  obtain ⟨h1, h2, h3, B, c, h4, h5⟩ := (h z hz).2 o ho
  exact ⟨h1, h2, h3, B, c, h4, pts_kxW h2 h5.1 K (hS B _ (pts_c0 h2 h5.1)), fr2_kx h5.2 K (hS B _ (pts_c0 h2 h5.1))⟩⟩
theorem mAt_ty {S : Nat → Prop} {a b : World} {D : DataW Value} {σ : Int → Option MO} (h : MAt a D σ) (K : Kx S a b) (hS : ∀ B, Fr2 a B → ¬ S B) : MAt b D σ := fun z hz => ⟨(h z hz).1, fun o ho => by
  obtain ⟨h1, h2, h3, B, c, h4, h5⟩ := (h z hz).2 o ho
  exact ⟨h1, h2, h3, B, c, h4, pts_kxW h2 h5.1 K (hS B h5.2), fr2_kx h5.2 K (hS B h5.2)⟩⟩
theorem mdAt_kx {S : Nat → Prop} {a b : World} {Q N : Nat} {M : Option Nat} {σ : Int → Option MO} (h : MdAt a Q M σ N) (K : Kx S a b) (hQ : ¬ S Q) (hM : ∀ m, M = some m → ¬ S m) (hS : ∀ B x, a.cell? ⟨B, 0, none⟩ = some (.int .i64 x) → ¬ S B) : MdAt b Q M σ N :=
  ⟨heap_kx K hQ h.1, h.2.1, fun m hm => by
    obtain ⟨D, h1, h2⟩ := h.2.2 m hm
    exact ⟨D, ownsMap_kx h1 K (hM m hm), mAt_kx h2 K hS⟩⟩
theorem mdAt_ty {S : Nat → Prop} {a b : World} {Q N : Nat} {M : Option Nat} {σ : Int → Option MO} (h : MdAt a Q M σ N) (K : Kx S a b) (hQ : ¬ S Q) (hM : ∀ m, M = some m → ¬ S m) (hS : ∀ B, Fr2 a B → ¬ S B) : MdAt b Q M σ N :=
  ⟨heap_kx K hQ h.1, h.2.1, fun m hm => by
    obtain ⟨D, h1, h2⟩ := h.2.2 m hm
    exact ⟨D, ownsMap_kx h1 K (hM m hm), mAt_ty h2 K hS⟩⟩
theorem mdAt_gr {a b : World} {Q N : Nat} {M : Option Nat} {σ : Int → Option MO} (h : MdAt a Q M σ N) (g : Gr a b) : MdAt b Q M σ N := mdAt_kx (S := fun _ => False) h (Kx.of_gr g) (fun h => h) (fun _ _ h => h) (fun _ _ _ h => h)
theorem ownsMap_heap {w : World} {P : Program} {k : TypeId} {m n : Nat} {D : DataW Value} (h : w.ownsMap P k heldE m n D) : ∃ es clock, w.heap[m]? = some (.map es clock) := by
  obtain ⟨es, clock, hb, -⟩ := h
  exact ⟨es, clock, hb⟩
theorem mdAt_oth {a b : World} {Q Q' N N' : Nat} {M M' : Option Nat} {σ τ : Int → Option MO} (h : MdAt a Q M σ N) (h' : MdAt a Q' M' τ N') (K : Kx (fun j => j = Q' ∨ M' = some j) a b) (hQ : Q ≠ Q') (hM : ∀ m, M = some m → M' ≠ some m) : MdAt b Q M σ N := by
  refine mdAt_kx h K (fun e => ?_) (fun m hm e => ?_) (fun B x hx e => ?_)
  · rcases e with e | e
    · exact hQ e
    · obtain ⟨D, o, -⟩ := h'.2.2 Q e
      obtain ⟨es, cl, hh⟩ := ownsMap_heap o
      rw [h.1] at hh
      cases hh
  · rcases e with e | e
    · obtain ⟨D, o, -⟩ := h.2.2 m hm
      obtain ⟨es, cl, hh⟩ := ownsMap_heap o
      rw [e, h'.1] at hh
      cases hh
    · exact hM m hm e
  · rcases e with e | e
    · exact cell_neQ hx h'.1 e
    · obtain ⟨D, o, -⟩ := h'.2.2 B e
      obtain ⟨es, cl, hh⟩ := ownsMap_heap o
      exact cell_neM hx hh rfl
set_option maxRecDepth 100000 in
theorem md_has {Q N : Nat} {M : Option Nat} {σ : Int → Option MO} {id : Int} (hi : i64R id) (W : World) (h : MdAt W Q M σ N) : Calls Tryz.prog 71 #[.pointer (some ⟨Q, 0, none⟩), .int .i64 id] W fun e w' => e = .returned (.bool (σ id).isSome) ∧ Gr W w' := by
  have c0 : W.cell? ⟨Q, 0, none⟩ = some (.map M) := Hm.cell_of_heap h.1 0
  have z := World.block_lt_of_cell? _ _ c0
  cases M with
  | none =>
    have hs := h.2.1 rfl id
    rw [hs]
    have hl : ∀ w, (Instr.lookup 103 (.map none) (.int .i64 id) true).run Tryz.prog w = .ok (.tuple #[.agg #[.int .i64 0, .slice none 0 0], .bool false]) w := fun w => Maps.look_nil true KI Tryz.underlying103 (zeroO w) (zk_of hi)
    clear h hs
    go_enter Tryz.func71, Tryz.ntmps71
    go_wp2_with fail
    go_ret
    exact ⟨rfl, by go_grown⟩
  | some m =>
    obtain ⟨D, hm, hD⟩ := h.2.2 m rfl
    cases hs : σ id with
    | none =>
      have hh := (hD id hi).1 hs
      clear h hD hs
      go_enter Tryz.func71, Tryz.ntmps71
      go_wp2_with (at_lookup; (refine wpList_look_miss _ rfl _ _ 103 rfl 3 34 KI Tryz.underlying103 (zeroO _) m N D rfl hm _ (zk id) rfl (zk_of hi) hh ?_))
      go_ret
      exact ⟨rfl, by go_grown⟩
    | some o =>
      obtain ⟨hh, -, -, B, c, hv, -⟩ := (hD id hi).2 o hs
      clear h hD hs
      go_enter Tryz.func71, Tryz.ntmps71
      go_wp2_with (at_lookup; (refine wpList_look_hit _ rfl _ _ 103 rfl 3 34 KI Tryz.underlying103 (zeroO _) m N D rfl hm _ (zk id) rfl (zk_of hi) hh _ hv ?_))
      go_ret
      exact ⟨rfl, by go_grown⟩
set_option maxHeartbeats 1000000 in
set_option maxRecDepth 100000 in
theorem md_ref_abs {Q : Nat} {id k : Int} {n : Nat} {X Y : Nat → Int} {v : Value} (W : World) (h : Pts W v n X Y) (hc : chgC 2 id k n X Y = 0) : Calls Tryz.prog 72 #[.pointer (some ⟨Q, 0, none⟩), .agg #[.int .i64 2, .int .i64 id, .int .i64 k, v], .bool false] W fun e w' => ∃ F, e = .returned (.iface 108 (.pointer (some ⟨F, 0, none⟩))) ∧ FaultAt w' F modelS id 7 ∧ Gr W w' := by
  have AC := Lib.hid (fun w (g : Gr W w) => c_Change0 2 id k w (pts_gr h g) hc)
  obtain ⟨ad, cap, B, off, rfl, -⟩ := h
  clear hc
  go_enter Tryz.func72, Tryz.ntmps72
  go_wp2_with fail
  go_at_call 106
  (with_reducible refine ((AC.out _ (by go_grown))).mono ?_)
  rintro e w1 ⟨bs, rfl, -, -, hw1⟩
  have cw1_0_0 : w1.cell? ⟨W.heap.size, 0, none⟩ = some (.int .i64 2) := cell_gr hw1 (by go_simp)
  have cw1_0_1 : w1.cell? ⟨W.heap.size, 1, none⟩ = some (.int .i64 id) := cell_gr hw1 (by go_simp)
  have cw1_0_2 : w1.cell? ⟨W.heap.size, 2, none⟩ = some (.int .i64 k) := cell_gr hw1 (by go_simp)
  have cw1_0_3 : w1.cell? ⟨W.heap.size, 3, none⟩ = some (.slice ad n cap) := cell_gr hw1 (by go_simp)
  have zw1_0 : W.heap.size < w1.heap.size := World.block_lt_of_cell? _ _ cw1_0_0
  have gw1 : Gr W w1 := Gr.trans (by go_grown) hw1
  clear hw1
  go_wp2_with fail
  go_at_call 57
  refine (md_fNew modelS id 7 _).mono ?_
  rintro e w2 ⟨F, rfl, hf, g2⟩
  have G2 : Gr W w2 := Gr.trans gw1 g2
  have HF := Lib.hid hf
  clear hf g2
  go_wp2_with fail
  go_ret
  exact ⟨F, rfl, HF.out, G2⟩
set_option maxHeartbeats 1000000 in
set_option maxRecDepth 100000 in
theorem md_ref_del {Q : Nat} {id k : Int} {n : Nat} {X Y : Nat → Int} {v : Value} (W : World) (h : Pts W v n X Y) (hc : chgC 2 id k n X Y = 0) : Calls Tryz.prog 72 #[.pointer (some ⟨Q, 0, none⟩), .agg #[.int .i64 2, .int .i64 id, .int .i64 k, v], .bool true] W fun e w' => e = .returned .nilIface ∧ Gr W w' := by
  have AC := Lib.hid (fun w (g : Gr W w) => c_Change0 2 id k w (pts_gr h g) hc)
  obtain ⟨ad, cap, B, off, rfl, -⟩ := h
  clear hc
  go_enter Tryz.func72, Tryz.ntmps72
  go_wp2_with fail
  go_at_call 106
  (with_reducible refine ((AC.out _ (by go_grown))).mono ?_)
  rintro e w1 ⟨bs, rfl, -, -, hw1⟩
  have cw1_0_0 : w1.cell? ⟨W.heap.size, 0, none⟩ = some (.int .i64 2) := cell_gr hw1 (by go_simp)
  have cw1_0_1 : w1.cell? ⟨W.heap.size, 1, none⟩ = some (.int .i64 id) := cell_gr hw1 (by go_simp)
  have cw1_0_2 : w1.cell? ⟨W.heap.size, 2, none⟩ = some (.int .i64 k) := cell_gr hw1 (by go_simp)
  have cw1_0_3 : w1.cell? ⟨W.heap.size, 3, none⟩ = some (.slice ad n cap) := cell_gr hw1 (by go_simp)
  have zw1_0 : W.heap.size < w1.heap.size := World.block_lt_of_cell? _ _ cw1_0_0
  have gw1 : Gr W w1 := Gr.trans (by go_grown) hw1
  clear hw1
  go_wp2_with fail
  go_ret
  exact ⟨rfl, gw1⟩
theorem werr_form {op : ByteArray} {w : World} {u : Value} {id : Int} {k : Nat} (h : WErr op w u id k) (hk : k ≠ 0) : ∃ F, u = .iface 108 (.pointer (some ⟨F, 0, none⟩)) := by
  rcases h with ⟨-, h⟩ | ⟨B, x, d, h, -⟩
  · exact absurd h hk
  · exact ⟨B, h⟩
set_option maxHeartbeats 1000000 in
set_option maxRecDepth 100000 in
theorem md_ref_bad {Q : Nat} {kd id k : Int} {n : Nat} {X Y : Nat → Int} {v : Value} (b : Bool) (W : World) (h : Pts W v n X Y) (hc : chgC kd id k n X Y ≠ 0) : Calls Tryz.prog 72 #[.pointer (some ⟨Q, 0, none⟩), .agg #[.int .i64 kd, .int .i64 id, .int .i64 k, v], .bool b] W fun e w' => ∃ F, e = .returned (.iface 108 (.pointer (some ⟨F, 0, none⟩))) ∧ WErr changeS w' (.iface 108 (.pointer (some ⟨F, 0, none⟩))) id (chgC kd id k n X Y) ∧ Gr W w' := by
  have AC := Lib.hid (fun w (g : Gr W w) => c_Change kd id k w (pts_gr h g))
  obtain ⟨ad, cap, B, off, rfl, -⟩ := h
  go_enter Tryz.func72, Tryz.ntmps72
  go_wp2_with fail
  go_at_call 106
  refine (AC.out _ (by go_grown)).mono ?_
  rintro e w1 ⟨bs, u, rfl, hu, -, g1⟩
  obtain ⟨F, rfl⟩ := werr_form hu hc
  have HU := Lib.hid hu
  have G1 : Gr W w1 := Gr.trans (by go_grown) g1
  clear hu g1
  go_wp2_with fail
  go_ret
  exact ⟨F, rfl, HU.out, G1⟩
set_option maxHeartbeats 1000000 in
set_option maxRecDepth 100000 in
theorem md_ap_bad {Q N : Nat} {M : Option Nat} {σ : Int → Option MO} {kd id k : Int} {n : Nat} {X Y : Nat → Int} {v : Value} (hi : i64R id) (W : World) (hM : MdAt W Q M σ N) (h : Pts W v n X Y) (hc : chgC kd id k n X Y ≠ 0) : Calls Tryz.prog 27 #[.pointer (some ⟨Q, 0, none⟩), .agg #[.int .i64 kd, .int .i64 id, .int .i64 k, v]] W fun e w' => ∃ F, e = .returned (.iface 108 (.pointer (some ⟨F, 0, none⟩))) ∧ WErr changeS w' (.iface 108 (.pointer (some ⟨F, 0, none⟩))) id (chgC kd id k n X Y) ∧ Gr W w' := by
  have AH := Lib.hid (fun w (g : Gr W w) => md_has hi w (mdAt_gr hM g))
  have AF := Lib.hid (fun w (g : Gr W w) => md_ref_bad (Q := Q) (σ id).isSome w (pts_gr h g) hc)
  obtain ⟨ad, cap, B0, off0, rfl, -⟩ := h
  clear hM hi
  
  go_enter Tryz.func27, Tryz.ntmps27
  go_wp2_with fail
  try simp only [List.append]
  refine Od.wp_region_ord [(0, false), (1, false), (2, false), (3, false), (4, true), (5, true), (6, false)] (by kernel_rfl) (by kernel_rfl) ?_
  intro w1 hw1 KQ hKQ
  have cw1_0_0 : w1.cell? ⟨W.heap.size, 0, none⟩ = some (.int .i64 kd) := cell_gr hw1 (by go_simp)
  have cw1_0_1 : w1.cell? ⟨W.heap.size, 1, none⟩ = some (.int .i64 id) := cell_gr hw1 (by go_simp)
  have cw1_0_2 : w1.cell? ⟨W.heap.size, 2, none⟩ = some (.int .i64 k) := cell_gr hw1 (by go_simp)
  have cw1_0_3 : w1.cell? ⟨W.heap.size, 3, none⟩ = some (.slice ad n cap) := cell_gr hw1 (by go_simp)
  have zw1_0 : W.heap.size < w1.heap.size := World.block_lt_of_cell? _ _ cw1_0_0
  have gw1 : Gr W w1 := Gr.trans (by go_grown) hw1
  skip
  clear hw1
  repeat (first | (refine Od.wpO_skip (by simp only [List.getElem?_toArray, List.getElem?_cons_succ, List.getElem?_cons_zero] <;> rfl) rfl ?_; simp only [Act.put, List.setIfInBounds_toArray, List.set_cons_zero, List.set_cons_succ]) | (refine Od.wpO_pure (by simp only [List.getElem?_toArray, List.getElem?_cons_succ, List.getElem?_cons_zero] <;> rfl) rfl ?_; apply Exists.intro; refine ⟨?_, ?_⟩; (· intro wx gx; obtain ⟨mx, rfl⟩ := spread_of_gr gx; clear gx; all_goals (apply Od.pAt_of_quiet; intro K hK; go_big_quiet_op; first | exact hK _ rfl | (apply Exists.intro; refine ⟨fun _ => ?_, ?_⟩; (· fail); exact hK _ rfl))); try simp only [Act.put, List.setIfInBounds_toArray, List.set_cons_zero, List.set_cons_succ]))
  refine Od.wpO_call (by simp only [List.getElem?_toArray, List.getElem?_cons_succ, List.getElem?_cons_zero] <;> rfl) rfl ?_
  intro QS hQS
  go_wp2_with fail
  go_at_call 71
  (with_reducible refine ((AH.out _ gw1)).mono ?_)
  rintro e w2 ⟨rfl, hw2⟩
  go_wp2_with fail
  apply Exists.intro
  refine ⟨?_, hw2, ?_⟩
  · simp only [Act.put, List.setIfInBounds_toArray, List.set_cons_zero, List.set_cons_succ]; rfl
  have cw2_0_0 : w2.cell? ⟨W.heap.size, 0, none⟩ = some (.int .i64 kd) := cell_gr hw2 (by go_simp)
  have cw2_0_1 : w2.cell? ⟨W.heap.size, 1, none⟩ = some (.int .i64 id) := cell_gr hw2 (by go_simp)
  have cw2_0_2 : w2.cell? ⟨W.heap.size, 2, none⟩ = some (.int .i64 k) := cell_gr hw2 (by go_simp)
  have cw2_0_3 : w2.cell? ⟨W.heap.size, 3, none⟩ = some (.slice ad n cap) := cell_gr hw2 (by go_simp)
  have zw2_0 : W.heap.size < w2.heap.size := World.block_lt_of_cell? _ _ cw2_0_0
  have gw2 : Gr W w2 := Gr.trans (by have gg := gw1; have gs := gg.size; go_grown) hw2
  clear gw1 zw1_0 cw1_0_0 cw1_0_1 cw1_0_2 cw1_0_3
  clear hw2
  try simp only [Act.put, List.setIfInBounds_toArray, List.set_cons_zero, List.set_cons_succ]
  repeat (first | (refine Od.wpO_skip (by simp only [List.getElem?_toArray, List.getElem?_cons_succ, List.getElem?_cons_zero] <;> rfl) rfl ?_; simp only [Act.put, List.setIfInBounds_toArray, List.set_cons_zero, List.set_cons_succ]) | (refine Od.wpO_pure (by simp only [List.getElem?_toArray, List.getElem?_cons_succ, List.getElem?_cons_zero] <;> rfl) rfl ?_; apply Exists.intro; refine ⟨?_, ?_⟩; (· intro wx gx; obtain ⟨mx, rfl⟩ := spread_of_gr gx; clear gx; all_goals (apply Od.pAt_of_quiet; intro K hK; go_big_quiet_op; first | exact hK _ rfl | (apply Exists.intro; refine ⟨fun _ => ?_, ?_⟩; (· fail); exact hK _ rfl))); try simp only [Act.put, List.setIfInBounds_toArray, List.set_cons_zero, List.set_cons_succ]))
  refine Od.wpO_call (by simp only [List.getElem?_toArray, List.getElem?_cons_succ, List.getElem?_cons_zero] <;> rfl) rfl ?_
  intro QS hQS
  go_wp2_with fail
  go_at_call 72
  (with_reducible refine ((AF.out _ gw2)).mono ?_)
  rintro e w3 ⟨F, rfl, hf, hw3⟩
  go_wp2_with fail
  apply Exists.intro
  refine ⟨?_, hw3, ?_⟩
  · simp only [Act.put, List.setIfInBounds_toArray, List.set_cons_zero, List.set_cons_succ]; rfl
  have cw3_0_0 : w3.cell? ⟨W.heap.size, 0, none⟩ = some (.int .i64 kd) := cell_gr hw3 (by go_simp)
  have cw3_0_1 : w3.cell? ⟨W.heap.size, 1, none⟩ = some (.int .i64 id) := cell_gr hw3 (by go_simp)
  have cw3_0_2 : w3.cell? ⟨W.heap.size, 2, none⟩ = some (.int .i64 k) := cell_gr hw3 (by go_simp)
  have cw3_0_3 : w3.cell? ⟨W.heap.size, 3, none⟩ = some (.slice ad n cap) := cell_gr hw3 (by go_simp)
  have zw3_0 : W.heap.size < w3.heap.size := World.block_lt_of_cell? _ _ cw3_0_0
  have gw3 : Gr W w3 := Gr.trans (by have gg := gw2; have gs := gg.size; go_grown) hw3
  clear gw2 zw2_0 cw2_0_0 cw2_0_1 cw2_0_2 cw2_0_3
  clear hw3
  try simp only [Act.put, List.setIfInBounds_toArray, List.set_cons_zero, List.set_cons_succ]
  repeat (first | (refine Od.wpO_skip (by simp only [List.getElem?_toArray, List.getElem?_cons_succ, List.getElem?_cons_zero] <;> rfl) rfl ?_; simp only [Act.put, List.setIfInBounds_toArray, List.set_cons_zero, List.set_cons_succ]) | (refine Od.wpO_pure (by simp only [List.getElem?_toArray, List.getElem?_cons_succ, List.getElem?_cons_zero] <;> rfl) rfl ?_; apply Exists.intro; refine ⟨?_, ?_⟩; (· intro wx gx; obtain ⟨mx, rfl⟩ := spread_of_gr gx; clear gx; all_goals (apply Od.pAt_of_quiet; intro K hK; go_big_quiet_op; first | exact hK _ rfl | (apply Exists.intro; refine ⟨fun _ => ?_, ?_⟩; (· fail); exact hK _ rfl))); try simp only [Act.put, List.setIfInBounds_toArray, List.set_cons_zero, List.set_cons_succ]))
  have HF := Lib.hid hf
  clear hf
  refine Od.wpO_nil (hKQ _ _ ?_)
  clear hKQ KQ
  go_wp2_with fail
  go_ret
  exact ⟨F, rfl, HF.out, gw3⟩
set_option maxHeartbeats 1000000 in
set_option maxRecDepth 100000 in
theorem md_ap_dup {Q N : Nat} {M : Option Nat} {σ : Int → Option MO} {id k : Int} {n : Nat} {X Y : Nat → Int} {v : Value} (hi : i64R id) (W : World) (hM : MdAt W Q M σ N) (h : Pts W v n X Y) (hc : chgC 1 id k n X Y = 0) (hs : (σ id).isSome = true) : Calls Tryz.prog 27 #[.pointer (some ⟨Q, 0, none⟩), .agg #[.int .i64 1, .int .i64 id, .int .i64 k, v]] W fun e w' => ∃ F, e = .returned (.iface 108 (.pointer (some ⟨F, 0, none⟩))) ∧ FaultAt w' F modelS id 6 ∧ Gr W w' := by
  have AH := Lib.hid (fun w (g : Gr W w) => show Calls Tryz.prog 71 #[.pointer (some ⟨Q, 0, none⟩), .int .i64 id] w (fun e w' => e = .returned (.bool true) ∧ Gr w w') from by
    have := md_has hi w (mdAt_gr hM g)
    rwa [hs] at this)
  have AF := Lib.hid (fun w (g : Gr W w) => md_ref_dup (Q := Q) w (pts_gr h g) hc)
  obtain ⟨ad, cap, B0, off0, rfl, -⟩ := h
  clear hM hi
  
  go_enter Tryz.func27, Tryz.ntmps27
  go_wp2_with fail
  try simp only [List.append]
  refine Od.wp_region_ord [(0, false), (1, false), (2, false), (3, false), (4, true), (5, true), (6, false)] (by kernel_rfl) (by kernel_rfl) ?_
  intro w1 hw1 KQ hKQ
  have cw1_0_0 : w1.cell? ⟨W.heap.size, 0, none⟩ = some (.int .i64 1) := cell_gr hw1 (by go_simp)
  have cw1_0_1 : w1.cell? ⟨W.heap.size, 1, none⟩ = some (.int .i64 id) := cell_gr hw1 (by go_simp)
  have cw1_0_2 : w1.cell? ⟨W.heap.size, 2, none⟩ = some (.int .i64 k) := cell_gr hw1 (by go_simp)
  have cw1_0_3 : w1.cell? ⟨W.heap.size, 3, none⟩ = some (.slice ad n cap) := cell_gr hw1 (by go_simp)
  have zw1_0 : W.heap.size < w1.heap.size := World.block_lt_of_cell? _ _ cw1_0_0
  have gw1 : Gr W w1 := Gr.trans (by go_grown) hw1
  skip
  clear hw1
  repeat (first | (refine Od.wpO_skip (by simp only [List.getElem?_toArray, List.getElem?_cons_succ, List.getElem?_cons_zero] <;> rfl) rfl ?_; simp only [Act.put, List.setIfInBounds_toArray, List.set_cons_zero, List.set_cons_succ]) | (refine Od.wpO_pure (by simp only [List.getElem?_toArray, List.getElem?_cons_succ, List.getElem?_cons_zero] <;> rfl) rfl ?_; apply Exists.intro; refine ⟨?_, ?_⟩; (· intro wx gx; obtain ⟨mx, rfl⟩ := spread_of_gr gx; clear gx; all_goals (apply Od.pAt_of_quiet; intro K hK; go_big_quiet_op; first | exact hK _ rfl | (apply Exists.intro; refine ⟨fun _ => ?_, ?_⟩; (· fail); exact hK _ rfl))); try simp only [Act.put, List.setIfInBounds_toArray, List.set_cons_zero, List.set_cons_succ]))
  refine Od.wpO_call (by simp only [List.getElem?_toArray, List.getElem?_cons_succ, List.getElem?_cons_zero] <;> rfl) rfl ?_
  intro QS hQS
  go_wp2_with fail
  go_at_call 71
  (with_reducible refine ((AH.out _ gw1)).mono ?_)
  rintro e w2 ⟨rfl, hw2⟩
  go_wp2_with fail
  apply Exists.intro
  refine ⟨?_, hw2, ?_⟩
  · simp only [Act.put, List.setIfInBounds_toArray, List.set_cons_zero, List.set_cons_succ]; rfl
  have cw2_0_0 : w2.cell? ⟨W.heap.size, 0, none⟩ = some (.int .i64 1) := cell_gr hw2 (by go_simp)
  have cw2_0_1 : w2.cell? ⟨W.heap.size, 1, none⟩ = some (.int .i64 id) := cell_gr hw2 (by go_simp)
  have cw2_0_2 : w2.cell? ⟨W.heap.size, 2, none⟩ = some (.int .i64 k) := cell_gr hw2 (by go_simp)
  have cw2_0_3 : w2.cell? ⟨W.heap.size, 3, none⟩ = some (.slice ad n cap) := cell_gr hw2 (by go_simp)
  have zw2_0 : W.heap.size < w2.heap.size := World.block_lt_of_cell? _ _ cw2_0_0
  have gw2 : Gr W w2 := Gr.trans (by have gg := gw1; have gs := gg.size; go_grown) hw2
  clear gw1 zw1_0 cw1_0_0 cw1_0_1 cw1_0_2 cw1_0_3
  clear hw2
  try simp only [Act.put, List.setIfInBounds_toArray, List.set_cons_zero, List.set_cons_succ]
  repeat (first | (refine Od.wpO_skip (by simp only [List.getElem?_toArray, List.getElem?_cons_succ, List.getElem?_cons_zero] <;> rfl) rfl ?_; simp only [Act.put, List.setIfInBounds_toArray, List.set_cons_zero, List.set_cons_succ]) | (refine Od.wpO_pure (by simp only [List.getElem?_toArray, List.getElem?_cons_succ, List.getElem?_cons_zero] <;> rfl) rfl ?_; apply Exists.intro; refine ⟨?_, ?_⟩; (· intro wx gx; obtain ⟨mx, rfl⟩ := spread_of_gr gx; clear gx; all_goals (apply Od.pAt_of_quiet; intro K hK; go_big_quiet_op; first | exact hK _ rfl | (apply Exists.intro; refine ⟨fun _ => ?_, ?_⟩; (· fail); exact hK _ rfl))); try simp only [Act.put, List.setIfInBounds_toArray, List.set_cons_zero, List.set_cons_succ]))
  refine Od.wpO_call (by simp only [List.getElem?_toArray, List.getElem?_cons_succ, List.getElem?_cons_zero] <;> rfl) rfl ?_
  intro QS hQS
  go_wp2_with fail
  go_at_call 72
  (with_reducible refine ((AF.out _ gw2)).mono ?_)
  rintro e w3 ⟨F, rfl, hf, hw3⟩
  go_wp2_with fail
  apply Exists.intro
  refine ⟨?_, hw3, ?_⟩
  · simp only [Act.put, List.setIfInBounds_toArray, List.set_cons_zero, List.set_cons_succ]; rfl
  have cw3_0_0 : w3.cell? ⟨W.heap.size, 0, none⟩ = some (.int .i64 1) := cell_gr hw3 (by go_simp)
  have cw3_0_1 : w3.cell? ⟨W.heap.size, 1, none⟩ = some (.int .i64 id) := cell_gr hw3 (by go_simp)
  have cw3_0_2 : w3.cell? ⟨W.heap.size, 2, none⟩ = some (.int .i64 k) := cell_gr hw3 (by go_simp)
  have cw3_0_3 : w3.cell? ⟨W.heap.size, 3, none⟩ = some (.slice ad n cap) := cell_gr hw3 (by go_simp)
  have zw3_0 : W.heap.size < w3.heap.size := World.block_lt_of_cell? _ _ cw3_0_0
  have gw3 : Gr W w3 := Gr.trans (by have gg := gw2; have gs := gg.size; go_grown) hw3
  clear gw2 zw2_0 cw2_0_0 cw2_0_1 cw2_0_2 cw2_0_3
  clear hw3
  try simp only [Act.put, List.setIfInBounds_toArray, List.set_cons_zero, List.set_cons_succ]
  repeat (first | (refine Od.wpO_skip (by simp only [List.getElem?_toArray, List.getElem?_cons_succ, List.getElem?_cons_zero] <;> rfl) rfl ?_; simp only [Act.put, List.setIfInBounds_toArray, List.set_cons_zero, List.set_cons_succ]) | (refine Od.wpO_pure (by simp only [List.getElem?_toArray, List.getElem?_cons_succ, List.getElem?_cons_zero] <;> rfl) rfl ?_; apply Exists.intro; refine ⟨?_, ?_⟩; (· intro wx gx; obtain ⟨mx, rfl⟩ := spread_of_gr gx; clear gx; all_goals (apply Od.pAt_of_quiet; intro K hK; go_big_quiet_op; first | exact hK _ rfl | (apply Exists.intro; refine ⟨fun _ => ?_, ?_⟩; (· fail); exact hK _ rfl))); try simp only [Act.put, List.setIfInBounds_toArray, List.set_cons_zero, List.set_cons_succ]))
  have HF := Lib.hid hf
  clear hf
  refine Od.wpO_nil (hKQ _ _ ?_)
  clear hKQ KQ
  go_wp2_with fail
  go_ret
  exact ⟨F, rfl, HF.out, gw3⟩
set_option maxHeartbeats 1000000 in
set_option maxRecDepth 100000 in
theorem md_ap_abs {Q N : Nat} {M : Option Nat} {σ : Int → Option MO} {id k : Int} {n : Nat} {X Y : Nat → Int} {v : Value} (hi : i64R id) (W : World) (hM : MdAt W Q M σ N) (h : Pts W v n X Y) (hc : chgC 2 id k n X Y = 0) (hs : (σ id).isSome = false) : Calls Tryz.prog 27 #[.pointer (some ⟨Q, 0, none⟩), .agg #[.int .i64 2, .int .i64 id, .int .i64 k, v]] W fun e w' => ∃ F, e = .returned (.iface 108 (.pointer (some ⟨F, 0, none⟩))) ∧ FaultAt w' F modelS id 7 ∧ Gr W w' := by
  have AH := Lib.hid (fun w (g : Gr W w) => show Calls Tryz.prog 71 #[.pointer (some ⟨Q, 0, none⟩), .int .i64 id] w (fun e w' => e = .returned (.bool false) ∧ Gr w w') from by
    have := md_has hi w (mdAt_gr hM g)
    rwa [hs] at this)
  have AF := Lib.hid (fun w (g : Gr W w) => md_ref_abs (Q := Q) w (pts_gr h g) hc)
  obtain ⟨ad, cap, B0, off0, rfl, -⟩ := h
  clear hM hi
  
  go_enter Tryz.func27, Tryz.ntmps27
  go_wp2_with fail
  try simp only [List.append]
  refine Od.wp_region_ord [(0, false), (1, false), (2, false), (3, false), (4, true), (5, true), (6, false)] (by kernel_rfl) (by kernel_rfl) ?_
  intro w1 hw1 KQ hKQ
  have cw1_0_0 : w1.cell? ⟨W.heap.size, 0, none⟩ = some (.int .i64 2) := cell_gr hw1 (by go_simp)
  have cw1_0_1 : w1.cell? ⟨W.heap.size, 1, none⟩ = some (.int .i64 id) := cell_gr hw1 (by go_simp)
  have cw1_0_2 : w1.cell? ⟨W.heap.size, 2, none⟩ = some (.int .i64 k) := cell_gr hw1 (by go_simp)
  have cw1_0_3 : w1.cell? ⟨W.heap.size, 3, none⟩ = some (.slice ad n cap) := cell_gr hw1 (by go_simp)
  have zw1_0 : W.heap.size < w1.heap.size := World.block_lt_of_cell? _ _ cw1_0_0
  have gw1 : Gr W w1 := Gr.trans (by go_grown) hw1
  skip
  clear hw1
  repeat (first | (refine Od.wpO_skip (by simp only [List.getElem?_toArray, List.getElem?_cons_succ, List.getElem?_cons_zero] <;> rfl) rfl ?_; simp only [Act.put, List.setIfInBounds_toArray, List.set_cons_zero, List.set_cons_succ]) | (refine Od.wpO_pure (by simp only [List.getElem?_toArray, List.getElem?_cons_succ, List.getElem?_cons_zero] <;> rfl) rfl ?_; apply Exists.intro; refine ⟨?_, ?_⟩; (· intro wx gx; obtain ⟨mx, rfl⟩ := spread_of_gr gx; clear gx; all_goals (apply Od.pAt_of_quiet; intro K hK; go_big_quiet_op; first | exact hK _ rfl | (apply Exists.intro; refine ⟨fun _ => ?_, ?_⟩; (· fail); exact hK _ rfl))); try simp only [Act.put, List.setIfInBounds_toArray, List.set_cons_zero, List.set_cons_succ]))
  refine Od.wpO_call (by simp only [List.getElem?_toArray, List.getElem?_cons_succ, List.getElem?_cons_zero] <;> rfl) rfl ?_
  intro QS hQS
  go_wp2_with fail
  go_at_call 71
  (with_reducible refine ((AH.out _ gw1)).mono ?_)
  rintro e w2 ⟨rfl, hw2⟩
  go_wp2_with fail
  apply Exists.intro
  refine ⟨?_, hw2, ?_⟩
  · simp only [Act.put, List.setIfInBounds_toArray, List.set_cons_zero, List.set_cons_succ]; rfl
  have cw2_0_0 : w2.cell? ⟨W.heap.size, 0, none⟩ = some (.int .i64 2) := cell_gr hw2 (by go_simp)
  have cw2_0_1 : w2.cell? ⟨W.heap.size, 1, none⟩ = some (.int .i64 id) := cell_gr hw2 (by go_simp)
  have cw2_0_2 : w2.cell? ⟨W.heap.size, 2, none⟩ = some (.int .i64 k) := cell_gr hw2 (by go_simp)
  have cw2_0_3 : w2.cell? ⟨W.heap.size, 3, none⟩ = some (.slice ad n cap) := cell_gr hw2 (by go_simp)
  have zw2_0 : W.heap.size < w2.heap.size := World.block_lt_of_cell? _ _ cw2_0_0
  have gw2 : Gr W w2 := Gr.trans (by have gg := gw1; have gs := gg.size; go_grown) hw2
  clear gw1 zw1_0 cw1_0_0 cw1_0_1 cw1_0_2 cw1_0_3
  clear hw2
  try simp only [Act.put, List.setIfInBounds_toArray, List.set_cons_zero, List.set_cons_succ]
  repeat (first | (refine Od.wpO_skip (by simp only [List.getElem?_toArray, List.getElem?_cons_succ, List.getElem?_cons_zero] <;> rfl) rfl ?_; simp only [Act.put, List.setIfInBounds_toArray, List.set_cons_zero, List.set_cons_succ]) | (refine Od.wpO_pure (by simp only [List.getElem?_toArray, List.getElem?_cons_succ, List.getElem?_cons_zero] <;> rfl) rfl ?_; apply Exists.intro; refine ⟨?_, ?_⟩; (· intro wx gx; obtain ⟨mx, rfl⟩ := spread_of_gr gx; clear gx; all_goals (apply Od.pAt_of_quiet; intro K hK; go_big_quiet_op; first | exact hK _ rfl | (apply Exists.intro; refine ⟨fun _ => ?_, ?_⟩; (· fail); exact hK _ rfl))); try simp only [Act.put, List.setIfInBounds_toArray, List.set_cons_zero, List.set_cons_succ]))
  refine Od.wpO_call (by simp only [List.getElem?_toArray, List.getElem?_cons_succ, List.getElem?_cons_zero] <;> rfl) rfl ?_
  intro QS hQS
  go_wp2_with fail
  go_at_call 72
  (with_reducible refine ((AF.out _ gw2)).mono ?_)
  rintro e w3 ⟨F, rfl, hf, hw3⟩
  go_wp2_with fail
  apply Exists.intro
  refine ⟨?_, hw3, ?_⟩
  · simp only [Act.put, List.setIfInBounds_toArray, List.set_cons_zero, List.set_cons_succ]; rfl
  have cw3_0_0 : w3.cell? ⟨W.heap.size, 0, none⟩ = some (.int .i64 2) := cell_gr hw3 (by go_simp)
  have cw3_0_1 : w3.cell? ⟨W.heap.size, 1, none⟩ = some (.int .i64 id) := cell_gr hw3 (by go_simp)
  have cw3_0_2 : w3.cell? ⟨W.heap.size, 2, none⟩ = some (.int .i64 k) := cell_gr hw3 (by go_simp)
  have cw3_0_3 : w3.cell? ⟨W.heap.size, 3, none⟩ = some (.slice ad n cap) := cell_gr hw3 (by go_simp)
  have zw3_0 : W.heap.size < w3.heap.size := World.block_lt_of_cell? _ _ cw3_0_0
  have gw3 : Gr W w3 := Gr.trans (by have gg := gw2; have gs := gg.size; go_grown) hw3
  clear gw2 zw2_0 cw2_0_0 cw2_0_1 cw2_0_2 cw2_0_3
  clear hw3
  try simp only [Act.put, List.setIfInBounds_toArray, List.set_cons_zero, List.set_cons_succ]
  repeat (first | (refine Od.wpO_skip (by simp only [List.getElem?_toArray, List.getElem?_cons_succ, List.getElem?_cons_zero] <;> rfl) rfl ?_; simp only [Act.put, List.setIfInBounds_toArray, List.set_cons_zero, List.set_cons_succ]) | (refine Od.wpO_pure (by simp only [List.getElem?_toArray, List.getElem?_cons_succ, List.getElem?_cons_zero] <;> rfl) rfl ?_; apply Exists.intro; refine ⟨?_, ?_⟩; (· intro wx gx; obtain ⟨mx, rfl⟩ := spread_of_gr gx; clear gx; all_goals (apply Od.pAt_of_quiet; intro K hK; go_big_quiet_op; first | exact hK _ rfl | (apply Exists.intro; refine ⟨fun _ => ?_, ?_⟩; (· fail); exact hK _ rfl))); try simp only [Act.put, List.setIfInBounds_toArray, List.set_cons_zero, List.set_cons_succ]))
  have HF := Lib.hid hf
  clear hf
  refine Od.wpO_nil (hKQ _ _ ?_)
  clear hKQ KQ
  go_wp2_with fail
  go_ret
  exact ⟨F, rfl, HF.out, gw3⟩
end Go.Proofs.YtpomllpplpalkaaGreatDoor
