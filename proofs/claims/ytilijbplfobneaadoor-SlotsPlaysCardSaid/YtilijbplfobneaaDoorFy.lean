/- the document's frames: put, Put, Next, Scan -/
import Derived.Test.YtilijbplfobneaaDoorFx
namespace Go.Proofs.YtilijbplfobneaaDoor
set_option linter.unusedVariables false
open Go.ChangeShapes Go.WideShapes Go.ChangeAt Go.RowKit

theorem anyown_lt' {w : World} {base n size k : Nat} {e : TypeId} {x : Value} {xs : List Value} (h : w.ownsRow base e size x n xs) (hk : x.ownBlock = some k) : base ≤ k := by
  rcases h.2 with ⟨rfl, -⟩ | ⟨g, cap, cur, rfl, hb, hg, -⟩
  · cases hk
  · simp [Value.ownBlock] at hk
    omega
set_option maxHeartbeats 8000000 in
set_option maxRecDepth 100000 in
theorem c_put4 (v : Nat) (hv : v < 4294967296) (W : World) :
    Calls Tryd.prog 85 #[.int .u64 v, .int .i64 4] W fun e w' => ∃ b', e = .returned b' ∧ Own w' W.heap.size b' (wd v) ∧ Gr W w' := by
  obtain ⟨i0, hi0, hz0, hz1, hz2⟩ := info_parts (P := Tryd.prog) (e := 5) (z := .int .u8 0) (size := 1) (bytes := 1) (by kernel_rfl)
  have HI := Lib.hid (And.intro hi0 (And.intro hz0 (And.intro hz1 hz2)))
  obtain ⟨b0, e0⟩ : ∃ q, q = v % 256 := ⟨_, rfl⟩
  obtain ⟨q1, e1⟩ : ∃ q, q = v / 256 := ⟨_, rfl⟩
  obtain ⟨b1, e2⟩ : ∃ q, q = q1 % 256 := ⟨_, rfl⟩
  obtain ⟨q2, e3⟩ : ∃ q, q = v / 65536 := ⟨_, rfl⟩
  obtain ⟨b2, e4⟩ : ∃ q, q = q2 % 256 := ⟨_, rfl⟩
  obtain ⟨q3, e5⟩ : ∃ q, q = v / 16777216 := ⟨_, rfl⟩
  obtain ⟨b3, e6⟩ : ∃ q, q = q3 % 256 := ⟨_, rfl⟩
  have hw : (wd v).map bv = [.int .u8 (b0 : Int), .int .u8 (b1 : Int), .int .u8 (b2 : Int), .int .u8 (b3 : Int)] := by
    rw [e6, e5, e4, e3, e2, e1, e0]
    show [bv _, bv _, bv _, bv _] = _
    rw [byte_eq (by omega), byte_eq (by omega), byte_eq (by omega), byte_eq (by omega)]
  have HW := Lib.hid hw
  have c0 : (v : Int) % 256 = (b0 : Int) := by omega
  have c0b : IntKind.u8.wrap (v : Int) = (b0 : Int) := by rw [wraps_u8', ← e0]
  have c1 : (v : Int) / 2 ^ 8 = (q1 : Int) := by rw [show ((2 : Int) ^ 8) = 256 from rfl]; omega
  have c1b : (v : Int) / 256 = (q1 : Int) := by omega
  have c1c : (v : Int) / 2 ^ min 8 64 = (q1 : Int) := c1
  have c1d : (q1 : Int) % 256 = (b1 : Int) := by omega
  have c1e : IntKind.u8.wrap (q1 : Int) = (b1 : Int) := by rw [wraps_u8', ← e2]
  have c2 : (v : Int) / 2 ^ 16 = (q2 : Int) := by rw [show ((2 : Int) ^ 16) = 65536 from rfl]; omega
  have c2b : (v : Int) / 65536 = (q2 : Int) := by omega
  have c2c : (v : Int) / 2 ^ min 16 64 = (q2 : Int) := c2
  have c2d : (q2 : Int) % 256 = (b2 : Int) := by omega
  have c2e : IntKind.u8.wrap (q2 : Int) = (b2 : Int) := by rw [wraps_u8', ← e4]
  have c3 : (v : Int) / 2 ^ 24 = (q3 : Int) := by rw [show ((2 : Int) ^ 24) = 16777216 from rfl]; omega
  have c3b : (v : Int) / 16777216 = (q3 : Int) := by omega
  have c3c : (v : Int) / 2 ^ min 24 64 = (q3 : Int) := c3
  have c3d : (q3 : Int) % 256 = (b3 : Int) := by omega
  have c3e : IntKind.u8.wrap (q3 : Int) = (b3 : Int) := by rw [wraps_u8', ← e6]
  have N0 : W.ownsRow W.heap.size 5 1 (.slice none 0 0) 0 [] := World.ownsRow_nil _ _ _ _
  have O0 := Lib.hid N0
  clear hi0 hz0 hz1 hz2 hw e0 e1 e2 e3 e4 e5 e6 N0
  go_enter Tryd.func85, Tryd.ntmps85
  go_wp2_with fail
  refine wp_loop_rounds 5 ?_
  rw [rounds_succ]
  go_wp2_with (first | (at_builtin; (refine wpList_append_own2 _ rfl (.tmp 12) (.tmp 18) 35 rfl W.heap.size 5 i0 (.int .u8 0) 1 1 Tryd.underlying35 HI.out.1 HI.out.2.1 HI.out.2.2.1 HI.out.2.2.2 rfl (by decide) (.slice none 0 0) 0 [] rfl (World.ownsRow.alloc O0.out _) ⟨W.heap.size, 0, none⟩ 1 1 [.int .u8 (b0 : Int)] rfl rfl (cell_one_new _ _ _) (by intro u hu; (simp at hu); subst hu; rfl) (by unfold maxLen; omega) (by omega) (by simp) ?_); intro v1 w1 own1 gr1))
  have G1 : Gr W w1 := gr1.gr ((Below.refl _ _).alloc (Nat.le_refl _) _) (fun k hk => by cases hk)
  simp only [Nat.zero_add, List.nil_append] at own1
  have O1 := Lib.hid own1
  have s1 := G1.size
  clear own1 gr1
  rw [rounds_succ]
  go_wp2_with (first | (at_builtin; (refine wpList_append_own2 _ rfl (.tmp 12) (.tmp 18) 35 rfl W.heap.size 5 i0 (.int .u8 0) 1 1 Tryd.underlying35 HI.out.1 HI.out.2.1 HI.out.2.2.1 HI.out.2.2.2 rfl (by decide) v1 1 _ rfl (World.ownsRow.alloc O1.out _) ⟨w1.heap.size, 0, none⟩ 1 1 [.int .u8 (b1 : Int)] rfl rfl (cell_one_new _ _ _) (by intro u hu; (simp at hu); subst hu; rfl) (by unfold maxLen; omega) (by omega) (by simp; omega) ?_); intro v2 w2 own2 gr2))
  have G2 : Gr W w2 := gr2.gr (Gr.trans G1 ((Below.refl _ _).alloc (Nat.le_refl _) _)) (fun k hk => (anyown_lt' O1.out hk))
  have O2 := Lib.hid own2
  have s2 := G2.size
  clear own2 gr2
  rw [rounds_succ]
  go_wp2_with (first | (at_builtin; (refine wpList_append_own2 _ rfl (.tmp 12) (.tmp 18) 35 rfl W.heap.size 5 i0 (.int .u8 0) 1 1 Tryd.underlying35 HI.out.1 HI.out.2.1 HI.out.2.2.1 HI.out.2.2.2 rfl (by decide) v2 2 _ rfl (World.ownsRow.alloc O2.out _) ⟨w2.heap.size, 0, none⟩ 1 1 [.int .u8 (b2 : Int)] rfl rfl (cell_one_new _ _ _) (by intro u hu; (simp at hu); subst hu; rfl) (by unfold maxLen; omega) (by omega) (by simp; omega) ?_); intro v3 w3 own3 gr3))
  have G3 : Gr W w3 := gr3.gr (Gr.trans G2 ((Below.refl _ _).alloc (Nat.le_refl _) _)) (fun k hk => (anyown_lt' O2.out hk))
  have O3 := Lib.hid own3
  have s3 := G3.size
  clear own3 gr3
  rw [rounds_succ]
  go_wp2_with (first | (at_builtin; (refine wpList_append_own2 _ rfl (.tmp 12) (.tmp 18) 35 rfl W.heap.size 5 i0 (.int .u8 0) 1 1 Tryd.underlying35 HI.out.1 HI.out.2.1 HI.out.2.2.1 HI.out.2.2.2 rfl (by decide) v3 3 _ rfl (World.ownsRow.alloc O3.out _) ⟨w3.heap.size, 0, none⟩ 1 1 [.int .u8 (b3 : Int)] rfl rfl (cell_one_new _ _ _) (by intro u hu; (simp at hu); subst hu; rfl) (by unfold maxLen; omega) (by omega) (by simp; omega) ?_); intro v4 w4 own4 gr4))
  have G4 : Gr W w4 := gr4.gr (Gr.trans G3 ((Below.refl _ _).alloc (Nat.le_refl _) _)) (fun k hk => (anyown_lt' O3.out hk))
  have O4 : Own w4 W.heap.size v4 (wd v) := by
    unfold Own
    rw [HW.out]
    exact own4
  have P4 := Lib.hid O4
  clear own4 gr4 O4
  rw [rounds_succ]
  go_wp2_with fail
  go_ret
  exact ⟨v4, rfl, P4.out, G4⟩
end Go.Proofs.YtilijbplfobneaaDoor
