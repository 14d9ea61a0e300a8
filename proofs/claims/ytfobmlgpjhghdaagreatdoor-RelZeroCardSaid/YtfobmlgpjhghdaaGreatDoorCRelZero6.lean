/- What RelZero leans on: Rb Rt Va Vb Vd -/
import Derived.Test.YtfobmlgpjhghdaaGreatDoorCRelZero31
import Derived.Laws.OwnMore
namespace Go.Proofs.YtfobmlgpjhghdaaGreatDoor
set_option linter.unusedVariables false
open Go.ChangeShapes Go.WideShapes Go.ChangeAt Go.RowKit
def cmpD (va da vb db : Nat) : Int := if da = 0 then (if db = 0 then 0 else 1) else (if db = 0 then -1 else cmpN (va * db) (vb * da))
set_option maxHeartbeats 1000000 in
set_option maxRecDepth 100000 in
theorem c_rtCompare (ah al ad bh bl bd : Nat) (h1 : Wd ah) (h2 : Wd al) (h3 : Wd ad) (h4 : Wd bh) (h5 : Wd bl) (h6 : Wd bd) (W : World) :
    Calls Tryz.prog 79 #[.agg #[.int .u64 ah, .int .u64 al, .int .u64 ad], .agg #[.int .u64 bh, .int .u64 bl, .int .u64 bd]] W fun e w' => e = .returned (.int .i64 (cmpD (val ah al) ad (val bh bl) bd)) ∧ Gr W w' := by
  obtain ⟨k, hk⟩ : ∃ k, k = cmpD (val ah al) ad (val bh bl) bd := ⟨_, rfl⟩
  obtain ⟨s1, e1⟩ : ∃ s, s = decide (ad ≠ 0) := ⟨_, rfl⟩
  obtain ⟨s2, e2⟩ : ∃ s, s = decide (bd ≠ 0) := ⟨_, rfl⟩
  have A1 := c_Sound ah al ad
  have A2 := c_Sound bh bl bd
  have A3 := c_CompareProducts ah al bd bh bl ad h1 h2 h6 h4 h5 h3
  rw [← hk]
  rw [← e1] at A1
  rw [← e2] at A2
  unfold cmpD at hk
  have H1 := Lib.hid A1
  have H2 := Lib.hid A2
  clear A1 A2
  by_cases d1 : ad = 0
  · obtain rfl : s1 = false := by rw [e1]; simp [d1]
    rw [if_pos d1] at hk
    by_cases d2 : bd = 0
    · obtain rfl : s2 = false := by rw [e2]; simp [d2]
      rw [if_pos d2] at hk
      subst hk
      clear e1 e2 A3 d1 d2
      go_enter Tryz.func79, Tryz.ntmps79
      go_wp2_with fail
      go_at_call 78
      refine ((H1.out _)).mono ?_
      rintro e w1 ⟨rfl, hw1⟩
      have cw1_0_0 := cu hw1 (W.heap.size) 0 ah (by go_simp)
      have cw1_0_1 := cu hw1 (W.heap.size) 1 al (by go_simp)
      have cw1_0_2 := cu hw1 (W.heap.size) 2 ad (by go_simp)
      have cw1_1_0 := cu hw1 (W.heap.size + 1) 0 bh (by go_simp)
      have cw1_1_1 := cu hw1 (W.heap.size + 1) 1 bl (by go_simp)
      have cw1_1_2 := cu hw1 (W.heap.size + 1) 2 bd (by go_simp)
      have gw1 : Gr W w1 := Gr.trans (by go_grown) hw1
      clear hw1
      go_wp2_with fail
      go_at_call 78
      refine ((H1.out _)).mono ?_
      rintro e w2 ⟨rfl, hw2⟩
      have cw2_0_0 := cu hw2 (W.heap.size) 0 ah (by go_simp)
      have cw2_0_1 := cu hw2 (W.heap.size) 1 al (by go_simp)
      have cw2_0_2 := cu hw2 (W.heap.size) 2 ad (by go_simp)
      have cw2_1_0 := cu hw2 (W.heap.size + 1) 0 bh (by go_simp)
      have cw2_1_1 := cu hw2 (W.heap.size + 1) 1 bl (by go_simp)
      have cw2_1_2 := cu hw2 (W.heap.size + 1) 2 bd (by go_simp)
      have gw2 : Gr W w2 := Gr.trans (by have gg := gw1; have gs := gg.size; go_grown) hw2
      clear hw2 gw1 cw1_0_0 cw1_0_1 cw1_0_2 cw1_1_0 cw1_1_1 cw1_1_2
      go_wp2_with fail
      go_at_call 78
      refine ((H2.out _)).mono ?_
      rintro e w3 ⟨rfl, hw3⟩
      have gw3 : Gr W w3 := Gr.trans (by have gg := gw2; have gs := gg.size; go_grown) hw3
      clear hw3 gw2 cw2_0_0 cw2_0_1 cw2_0_2 cw2_1_0 cw2_1_1 cw2_1_2
      go_wp2_with fail
      go_ret
      exact ⟨rfl, by go_grown⟩
    · obtain rfl : s2 = true := by rw [e2]; simp [d2]
      rw [if_neg d2] at hk
      subst hk
      clear e1 e2 A3 d1 d2
      go_enter Tryz.func79, Tryz.ntmps79
      go_wp2_with fail
      go_at_call 78
      refine ((H1.out _)).mono ?_
      rintro e w1 ⟨rfl, hw1⟩
      have cw1_0_0 := cu hw1 (W.heap.size) 0 ah (by go_simp)
      have cw1_0_1 := cu hw1 (W.heap.size) 1 al (by go_simp)
      have cw1_0_2 := cu hw1 (W.heap.size) 2 ad (by go_simp)
      have cw1_1_0 := cu hw1 (W.heap.size + 1) 0 bh (by go_simp)
      have cw1_1_1 := cu hw1 (W.heap.size + 1) 1 bl (by go_simp)
      have cw1_1_2 := cu hw1 (W.heap.size + 1) 2 bd (by go_simp)
      have gw1 : Gr W w1 := Gr.trans (by go_grown) hw1
      clear hw1
      go_wp2_with fail
      go_at_call 78
      refine ((H1.out _)).mono ?_
      rintro e w2 ⟨rfl, hw2⟩
      have cw2_0_0 := cu hw2 (W.heap.size) 0 ah (by go_simp)
      have cw2_0_1 := cu hw2 (W.heap.size) 1 al (by go_simp)
      have cw2_0_2 := cu hw2 (W.heap.size) 2 ad (by go_simp)
      have cw2_1_0 := cu hw2 (W.heap.size + 1) 0 bh (by go_simp)
      have cw2_1_1 := cu hw2 (W.heap.size + 1) 1 bl (by go_simp)
      have cw2_1_2 := cu hw2 (W.heap.size + 1) 2 bd (by go_simp)
      have gw2 : Gr W w2 := Gr.trans (by have gg := gw1; have gs := gg.size; go_grown) hw2
      clear hw2 gw1 cw1_0_0 cw1_0_1 cw1_0_2 cw1_1_0 cw1_1_1 cw1_1_2
      go_wp2_with fail
      go_at_call 78
      refine ((H2.out _)).mono ?_
      rintro e w3 ⟨rfl, hw3⟩
      have gw3 : Gr W w3 := Gr.trans (by have gg := gw2; have gs := gg.size; go_grown) hw3
      clear hw3 gw2 cw2_0_0 cw2_0_1 cw2_0_2 cw2_1_0 cw2_1_1 cw2_1_2
      go_wp2_with fail
      go_ret
      exact ⟨rfl, by go_grown⟩
  · obtain rfl : s1 = true := by rw [e1]; simp [d1]
    rw [if_neg d1] at hk
    by_cases d2 : bd = 0
    · obtain rfl : s2 = false := by rw [e2]; simp [d2]
      rw [if_pos d2] at hk
      subst hk
      clear e1 e2 A3 d1 d2
      go_enter Tryz.func79, Tryz.ntmps79
      go_wp2_with fail
      go_at_call 78
      refine ((H1.out _)).mono ?_
      rintro e w1 ⟨rfl, hw1⟩
      have cw1_0_0 := cu hw1 (W.heap.size) 0 ah (by go_simp)
      have cw1_0_1 := cu hw1 (W.heap.size) 1 al (by go_simp)
      have cw1_0_2 := cu hw1 (W.heap.size) 2 ad (by go_simp)
      have cw1_1_0 := cu hw1 (W.heap.size + 1) 0 bh (by go_simp)
      have cw1_1_1 := cu hw1 (W.heap.size + 1) 1 bl (by go_simp)
      have cw1_1_2 := cu hw1 (W.heap.size + 1) 2 bd (by go_simp)
      have gw1 : Gr W w1 := Gr.trans (by go_grown) hw1
      clear hw1
      go_wp2_with fail
      go_at_call 78
      refine ((H2.out _)).mono ?_
      rintro e w2 ⟨rfl, hw2⟩
      have cw2_0_0 := cu hw2 (W.heap.size) 0 ah (by go_simp)
      have cw2_0_1 := cu hw2 (W.heap.size) 1 al (by go_simp)
      have cw2_0_2 := cu hw2 (W.heap.size) 2 ad (by go_simp)
      have cw2_1_0 := cu hw2 (W.heap.size + 1) 0 bh (by go_simp)
      have cw2_1_1 := cu hw2 (W.heap.size + 1) 1 bl (by go_simp)
      have cw2_1_2 := cu hw2 (W.heap.size + 1) 2 bd (by go_simp)
      have gw2 : Gr W w2 := Gr.trans (by have gg := gw1; have gs := gg.size; go_grown) hw2
      clear hw2 gw1 cw1_0_0 cw1_0_1 cw1_0_2 cw1_1_0 cw1_1_1 cw1_1_2
      go_wp2_with fail
      go_at_call 78
      refine ((H1.out _)).mono ?_
      rintro e w3 ⟨rfl, hw3⟩
      have gw3 : Gr W w3 := Gr.trans (by have gg := gw2; have gs := gg.size; go_grown) hw3
      clear hw3 gw2 cw2_0_0 cw2_0_1 cw2_0_2 cw2_1_0 cw2_1_1 cw2_1_2
      go_wp2_with fail
      go_ret
      exact ⟨rfl, by go_grown⟩
    · obtain rfl : s2 = true := by rw [e2]; simp [d2]
      rw [if_neg d2] at hk
      rw [← hk] at A3
      have H3 := Lib.hid A3
      clear e1 e2 A3 d1 d2 hk
      go_enter Tryz.func79, Tryz.ntmps79
      go_wp2_with fail
      go_at_call 78
      refine ((H1.out _)).mono ?_
      rintro e w1 ⟨rfl, hw1⟩
      have cw1_0_0 := cu hw1 (W.heap.size) 0 ah (by go_simp)
      have cw1_0_1 := cu hw1 (W.heap.size) 1 al (by go_simp)
      have cw1_0_2 := cu hw1 (W.heap.size) 2 ad (by go_simp)
      have cw1_1_0 := cu hw1 (W.heap.size + 1) 0 bh (by go_simp)
      have cw1_1_1 := cu hw1 (W.heap.size + 1) 1 bl (by go_simp)
      have cw1_1_2 := cu hw1 (W.heap.size + 1) 2 bd (by go_simp)
      have gw1 : Gr W w1 := Gr.trans (by go_grown) hw1
      clear hw1
      go_wp2_with fail
      go_at_call 78
      refine ((H2.out _)).mono ?_
      rintro e w2 ⟨rfl, hw2⟩
      have cw2_0_0 := cu hw2 (W.heap.size) 0 ah (by go_simp)
      have cw2_0_1 := cu hw2 (W.heap.size) 1 al (by go_simp)
      have cw2_0_2 := cu hw2 (W.heap.size) 2 ad (by go_simp)
      have cw2_1_0 := cu hw2 (W.heap.size + 1) 0 bh (by go_simp)
      have cw2_1_1 := cu hw2 (W.heap.size + 1) 1 bl (by go_simp)
      have cw2_1_2 := cu hw2 (W.heap.size + 1) 2 bd (by go_simp)
      have gw2 : Gr W w2 := Gr.trans (by have gg := gw1; have gs := gg.size; go_grown) hw2
      clear hw2 gw1 cw1_0_0 cw1_0_1 cw1_0_2 cw1_1_0 cw1_1_1 cw1_1_2
      go_wp2_with fail
      go_wp2_with fail
      refine Hd.wp_region_tail 9 (by kernel_rfl) (by kernel_rfl) ?_
      intro KQ hKQ
      repeat (first | (refine Hd.wpG_skip (by decide) rfl ?_; simp only [Act.put, List.setIfInBounds_toArray, List.set_cons_zero, List.set_cons_succ]) | (refine Hd.wpG_want (by decide) rfl ?_; apply Exists.intro; refine ⟨?_, ?_⟩; (· intro wx gx; (obtain ⟨mx, rfl⟩ := gx); all_goals (apply Hd.gAt_of_quiet; intro K hK; go_big_quiet_op; first | exact hK _ rfl | (apply Exists.intro; refine ⟨fun _ => ?_, ?_⟩; (· (first | (go_at_call 121; first | ((with_reducible refine ((c_numerator _ _ _ _)).mono ?_); rintro e w' ⟨rfl, hg⟩; exact ⟨rfl, spread_gr hg⟩)) | (go_at_call 120; first | ((with_reducible refine ((H3.out _)).mono ?_); rintro e w' ⟨rfl, hg⟩; exact ⟨rfl, spread_gr hg⟩)))); exact hK _ rfl))); try simp only [Act.put, List.setIfInBounds_toArray, List.set_cons_zero, List.set_cons_succ]))
      refine Hd.wpG_nil (hKQ _ ?_)
      clear hKQ KQ
      intro w3 hhw3
      have hw3 := Hd.gr_of_spread hhw3
      have gw3 : Gr W w3 := Gr.trans (by have gg := gw2; have gs := gg.size; go_grown) hw3
      clear hw3 hhw3 gw2 cw2_0_0 cw2_0_1 cw2_0_2 cw2_1_0 cw2_1_1 cw2_1_2
      go_wp2_with fail
      go_ret
      exact ⟨rfl, by go_grown⟩
end Go.Proofs.YtfobmlgpjhghdaaGreatDoor
namespace Go.Proofs.YtfobmlgpjhghdaaGreatDoor
set_option linter.unusedVariables false
open Go.ChangeShapes Go.WideShapes Go.ChangeAt Go.RowKit
set_option maxHeartbeats 2000000 in
set_option maxRecDepth 100000 in
theorem c_rBoxInside (lx ly hx hy mx my nx ny : Int) (W : World) :
    Calls Tryz.prog 26 #[.agg #[.int .i64 lx, .int .i64 ly, .int .i64 hx, .int .i64 hy], .agg #[.int .i64 mx, .int .i64 my, .int .i64 nx, .int .i64 ny]] W fun e w' => e = .returned (.bool (boxB lx ly hx hy && boxB mx my nx ny && inB mx my nx ny lx ly && inB mx my nx ny hx hy)) ∧ Gr W w' := by
  obtain ⟨k1, e1⟩ : ∃ k, k = boxCode lx ly hx hy := ⟨_, rfl⟩
  obtain ⟨q2, e2⟩ : ∃ q, q = (boxB mx my nx ny && nearB lx ly && inB mx my nx ny lx ly) := ⟨_, rfl⟩
  obtain ⟨q3, e3⟩ : ∃ q, q = (boxB mx my nx ny && nearB hx hy && inB mx my nx ny hx hy) := ⟨_, rfl⟩
  obtain ⟨r, hr⟩ : ∃ r, r = (boxB lx ly hx hy && boxB mx my nx ny && inB mx my nx ny lx ly && inB mx my nx ny hx hy) := ⟨_, rfl⟩
  have hrq : r = ((k1 == 0) && q2 && q3) := by
    rw [hr, e1, boxCode_zero, e2, e3]
    unfold boxB
    cases nearB lx ly <;> cases nearB hx hy <;> cases nearB mx my <;> cases nearB nx ny <;> simp
    grind
  have M := c_rCheckBox lx ly hx hy
  have N := c_rBoxHas mx my nx ny lx ly
  have O := c_rBoxHas mx my nx ny hx hy
  rw [← e1] at M
  rw [← e2] at N
  rw [← e3] at O
  rw [← hr]
  have H1 := Lib.hid M
  have H2 := Lib.hid N
  have H3 := Lib.hid O
  clear M N O e1 e2 e3 hr
  have hc : ((k1 == 0) = false ∧ r = false) ∨ (k1 = 0 ∧ q2 = false ∧ r = false) ∨ (k1 = 0 ∧ q2 = true ∧ r = q3) := by
    by_cases z1 : k1 = 0
    · subst z1
      cases q2
      · right; left; exact ⟨rfl, rfl, by rw [hrq]; simp⟩
      · right; right; exact ⟨rfl, rfl, by rw [hrq]; simp⟩
    · have : (k1 == 0) = false := by simpa using z1
      left; exact ⟨this, by rw [hrq, this]; simp⟩
  clear hrq
  rcases hc with ⟨z1, rfl⟩ | ⟨rfl, rfl, rfl⟩ | ⟨rfl, rfl, rfl⟩
  · go_enter Tryz.func26, Tryz.ntmps26
    go_wp2_with fail
    go_at_call 25
    refine ((H1.out _)).mono ?_
    rintro e w1 ⟨rfl, hw1⟩
    have cw1_0_0 := ci hw1 (W.heap.size) 0 lx (by go_simp)
    have cw1_0_1 := ci hw1 (W.heap.size) 1 ly (by go_simp)
    have cw1_0_2 := ci hw1 (W.heap.size) 2 hx (by go_simp)
    have cw1_0_3 := ci hw1 (W.heap.size) 3 hy (by go_simp)
    have cw1_1_0 := ci hw1 (W.heap.size + 1) 0 mx (by go_simp)
    have cw1_1_1 := ci hw1 (W.heap.size + 1) 1 my (by go_simp)
    have cw1_1_2 := ci hw1 (W.heap.size + 1) 2 nx (by go_simp)
    have cw1_1_3 := ci hw1 (W.heap.size + 1) 3 ny (by go_simp)
    have gw1 : Gr W w1 := Gr.trans (by go_grown) hw1
    clear hw1
    go_wp2_with fail
    go_ret
    exact ⟨rfl, by go_grown⟩
  · go_enter Tryz.func26, Tryz.ntmps26
    go_wp2_with fail
    go_at_call 25
    refine ((H1.out _)).mono ?_
    rintro e w1 ⟨rfl, hw1⟩
    have cw1_0_0 := ci hw1 (W.heap.size) 0 lx (by go_simp)
    have cw1_0_1 := ci hw1 (W.heap.size) 1 ly (by go_simp)
    have cw1_0_2 := ci hw1 (W.heap.size) 2 hx (by go_simp)
    have cw1_0_3 := ci hw1 (W.heap.size) 3 hy (by go_simp)
    have cw1_1_0 := ci hw1 (W.heap.size + 1) 0 mx (by go_simp)
    have cw1_1_1 := ci hw1 (W.heap.size + 1) 1 my (by go_simp)
    have cw1_1_2 := ci hw1 (W.heap.size + 1) 2 nx (by go_simp)
    have cw1_1_3 := ci hw1 (W.heap.size + 1) 3 ny (by go_simp)
    have gw1 : Gr W w1 := Gr.trans (by go_grown) hw1
    clear hw1
    go_wp2_with fail
    go_at_call 28
    refine ((H2.out _)).mono ?_
    rintro e w2 ⟨rfl, hw2⟩
    have cw2_0_2 := ci hw2 (W.heap.size) 2 hx (by go_simp)
    have cw2_0_3 := ci hw2 (W.heap.size) 3 hy (by go_simp)
    have cw2_1_0 := ci hw2 (W.heap.size + 1) 0 mx (by go_simp)
    have cw2_1_1 := ci hw2 (W.heap.size + 1) 1 my (by go_simp)
    have cw2_1_2 := ci hw2 (W.heap.size + 1) 2 nx (by go_simp)
    have cw2_1_3 := ci hw2 (W.heap.size + 1) 3 ny (by go_simp)
    have gw2 : Gr W w2 := Gr.trans (by have gg := gw1; have gs := gg.size; go_grown) hw2
    clear hw2 gw1 cw1_0_0 cw1_0_1 cw1_0_2 cw1_0_3 cw1_1_0 cw1_1_1 cw1_1_2 cw1_1_3
    go_wp2_with fail
    go_ret
    exact ⟨rfl, by go_grown⟩
  · go_enter Tryz.func26, Tryz.ntmps26
    go_wp2_with fail
    go_at_call 25
    refine ((H1.out _)).mono ?_
    rintro e w1 ⟨rfl, hw1⟩
    have cw1_0_0 := ci hw1 (W.heap.size) 0 lx (by go_simp)
    have cw1_0_1 := ci hw1 (W.heap.size) 1 ly (by go_simp)
    have cw1_0_2 := ci hw1 (W.heap.size) 2 hx (by go_simp)
    have cw1_0_3 := ci hw1 (W.heap.size) 3 hy (by go_simp)
    have cw1_1_0 := ci hw1 (W.heap.size + 1) 0 mx (by go_simp)
    have cw1_1_1 := ci hw1 (W.heap.size + 1) 1 my (by go_simp)
    have cw1_1_2 := ci hw1 (W.heap.size + 1) 2 nx (by go_simp)
    have cw1_1_3 := ci hw1 (W.heap.size + 1) 3 ny (by go_simp)
    have gw1 : Gr W w1 := Gr.trans (by go_grown) hw1
    clear hw1
    go_wp2_with fail
    go_at_call 28
    refine ((H2.out _)).mono ?_
    rintro e w2 ⟨rfl, hw2⟩
    have cw2_0_2 := ci hw2 (W.heap.size) 2 hx (by go_simp)
    have cw2_0_3 := ci hw2 (W.heap.size) 3 hy (by go_simp)
    have cw2_1_0 := ci hw2 (W.heap.size + 1) 0 mx (by go_simp)
    have cw2_1_1 := ci hw2 (W.heap.size + 1) 1 my (by go_simp)
    have cw2_1_2 := ci hw2 (W.heap.size + 1) 2 nx (by go_simp)
    have cw2_1_3 := ci hw2 (W.heap.size + 1) 3 ny (by go_simp)
    have gw2 : Gr W w2 := Gr.trans (by have gg := gw1; have gs := gg.size; go_grown) hw2
    clear hw2 gw1 cw1_0_0 cw1_0_1 cw1_0_2 cw1_0_3 cw1_1_0 cw1_1_1 cw1_1_2 cw1_1_3
    go_wp2_with fail
    go_at_call 28
    refine ((H3.out _)).mono ?_
    rintro e w3 ⟨rfl, hw3⟩
    have gw3 : Gr W w3 := Gr.trans (by have gg := gw2; have gs := gg.size; go_grown) hw3
    clear hw3 gw2 cw2_0_2 cw2_0_3 cw2_1_0 cw2_1_1 cw2_1_2 cw2_1_3
    go_wp2_with fail
    go_ret
    exact ⟨rfl, by go_grown⟩
set_option maxHeartbeats 1000000 in
set_option maxRecDepth 100000 in
theorem c_rBoxDist (lx ly hx hy px py : Int) (hq : boxB lx ly hx hy = true ∧ nearB px py = true) (s : Nat) (hs : (s : Int) = distZ lx ly hx hy px py) (W : World) :
    Calls Tryz.prog 30 #[.agg #[.int .i64 lx, .int .i64 ly, .int .i64 hx, .int .i64 hy], .agg #[.int .i64 px, .int .i64 py]] W fun e w' => e = .returned (.agg #[.int .u64 0, .int .u64 s, .int .u64 1]) ∧ Gr W w' := by
  have M := c_rCheckBox lx ly hx hy
  have z1 : boxCode lx ly hx hy = 0 := by simpa using (boxCode_zero (lx := lx) (ly := ly) (hx := hx) (hy := hy)).trans hq.1
  rw [z1] at M
  have N := c_rPoint px py
  rw [hq.2] at N
  have n1 := nearB_iff.1 (boxB_iff.1 hq.1).1.1
  have n2 := nearB_iff.1 (boxB_iff.1 hq.1).1.2
  have n3 := nearB_iff.1 hq.2
  have n4 := (boxB_iff.1 hq.1).2
  have b1 := bey_near (lo := lx) (hi := hx) (v := px) n4.1 ⟨n1.1, n1.2.1⟩ ⟨n2.1, n2.2.1⟩ ⟨n3.1, n3.2.1⟩
  have b2 := bey_near (lo := ly) (hi := hy) (v := py) n4.2 n1.2.2 n2.2.2 n3.2.2
  have O := c_sum _ _ b1 b2 s hs
  have m1 := mul_near b1 b1
  have m2 := mul_near b2 b2
  unfold distZ at hs
  have L : ∀ w, Calls Tryz.prog 57 #[.agg #[.int .u64 0, .int .u64 s], .int .u64 1] w fun e w' => e = .returned (.agg #[.int .u64 0, .int .u64 s, .int .u64 1]) ∧ Gr w w' := c_Lowest1 0 s (by unfold Wd; omega) (by unfold Wd; omega)
  have X1 : ∀ w, (Builtin.max_ #[3, 3, 3] 3 #[.int .i64 (lx - px), .int .i64 (px - hx), .int .i64 0]).run Tryz.prog w = .ok (.int .i64 (beyZ lx hx px)) w := fun w => by
    have e : beyZ lx hx px = (if 0 > (if px - hx > lx - px then px - hx else lx - px) then 0 else (if px - hx > lx - px then px - hx else lx - px)) := by
      unfold beyZ
      split <;> split <;> (try split) <;> (try split) <;> omega
    rw [e]
    simp [Builtin.max_, Builtin.max2, go_sem]
  have X2 : ∀ w, (Builtin.max_ #[3, 3, 3] 3 #[.int .i64 (ly - py), .int .i64 (py - hy), .int .i64 0]).run Tryz.prog w = .ok (.int .i64 (beyZ ly hy py)) w := fun w => by
    have e : beyZ ly hy py = (if 0 > (if py - hy > ly - py then py - hy else ly - py) then 0 else (if py - hy > ly - py then py - hy else ly - py)) := by
      unfold beyZ
      split <;> split <;> (try split) <;> (try split) <;> omega
    rw [e]
    simp [Builtin.max_, Builtin.max2, go_sem]
  have e1 : wrap64 (lx - px) = lx - px := IntWalk.wrap64_in _ (by omega)
  have e2 : wrap64 (px - hx) = px - hx := IntWalk.wrap64_in _ (by omega)
  have e3 : wrap64 (ly - py) = ly - py := IntWalk.wrap64_in _ (by omega)
  have e4 : wrap64 (py - hy) = py - hy := IntWalk.wrap64_in _ (by omega)
  have f1 : IntKind.i64.wrap (lx - px) = lx - px := IntWalk.i64_in _ (by omega)
  have f2 : IntKind.i64.wrap (px - hx) = px - hx := IntWalk.i64_in _ (by omega)
  have f3 : IntKind.i64.wrap (ly - py) = ly - py := IntWalk.i64_in _ (by omega)
  have f4 : IntKind.i64.wrap (py - hy) = py - hy := IntWalk.i64_in _ (by omega)
  generalize beyZ lx hx px = x at *
  generalize beyZ ly hy py = y at *
  have H1 := Lib.hid M
  have H2 := Lib.hid N
  have H3 := Lib.hid O
  have H4 := Lib.hid L
  clear M N O L hq n1 n2 n3 n4 hs m1 m2 z1 b1 b2
  go_enter Tryz.func30, Tryz.ntmps30
  go_wp2_with fail
  go_at_call 25
  refine ((H1.out _)).mono ?_
  rintro e w1 ⟨rfl, hw1⟩
  have cw1_0_0 := ci hw1 (W.heap.size) 0 lx (by go_simp)
  have cw1_0_1 := ci hw1 (W.heap.size) 1 ly (by go_simp)
  have cw1_0_2 := ci hw1 (W.heap.size) 2 hx (by go_simp)
  have cw1_0_3 := ci hw1 (W.heap.size) 3 hy (by go_simp)
  have cw1_1_0 := ci hw1 (W.heap.size + 1) 0 px (by go_simp)
  have cw1_1_1 := ci hw1 (W.heap.size + 1) 1 py (by go_simp)
  have cw1_2_0 := cu hw1 (W.heap.size + 1 + 1) 0 0 (by go_simp)
  have fw1_2_0 := fq hw1 (W.heap.size + 1 + 1) 0 (.int .u64 0) (by go_simp) (by go_simp)
  have cw1_2_1 := cu hw1 (W.heap.size + 1 + 1) 1 0 (by go_simp)
  have fw1_2_1 := fq hw1 (W.heap.size + 1 + 1) 1 (.int .u64 0) (by go_simp) (by go_simp)
  have cw1_2_2 := cu hw1 (W.heap.size + 1 + 1) 2 0 (by go_simp)
  have fw1_2_2 := fq hw1 (W.heap.size + 1 + 1) 2 (.int .u64 0) (by go_simp) (by go_simp)
  have gw1 : Gr W w1 := Gr.trans (by go_grown) hw1
  clear hw1
  go_wp2_with fail
  go_at_call 24
  refine ((H2.out _)).mono ?_
  rintro e w2 ⟨rfl, hw2⟩
  have cw2_0_0 := ci hw2 (W.heap.size) 0 lx (by go_simp)
  have cw2_0_1 := ci hw2 (W.heap.size) 1 ly (by go_simp)
  have cw2_0_2 := ci hw2 (W.heap.size) 2 hx (by go_simp)
  have cw2_0_3 := ci hw2 (W.heap.size) 3 hy (by go_simp)
  have cw2_1_0 := ci hw2 (W.heap.size + 1) 0 px (by go_simp)
  have cw2_1_1 := ci hw2 (W.heap.size + 1) 1 py (by go_simp)
  have cw2_2_0 := cu hw2 (W.heap.size + 1 + 1) 0 0 (by go_simp)
  have fw2_2_0 := fq hw2 (W.heap.size + 1 + 1) 0 (.int .u64 0) (by go_simp) (by go_simp)
  have cw2_2_1 := cu hw2 (W.heap.size + 1 + 1) 1 0 (by go_simp)
  have fw2_2_1 := fq hw2 (W.heap.size + 1 + 1) 1 (.int .u64 0) (by go_simp) (by go_simp)
  have cw2_2_2 := cu hw2 (W.heap.size + 1 + 1) 2 0 (by go_simp)
  have fw2_2_2 := fq hw2 (W.heap.size + 1 + 1) 2 (.int .u64 0) (by go_simp) (by go_simp)
  have gw2 : Gr W w2 := Gr.trans (by have gg := gw1; have gs := gg.size; go_grown) hw2
  clear hw2 gw1 cw1_0_0 cw1_0_1 cw1_0_2 cw1_0_3 cw1_1_0 cw1_1_1 cw1_2_0 fw1_2_0 cw1_2_1 fw1_2_1 cw1_2_2 fw1_2_2
  go_wp2_with fail
  go_at_call 58
  refine ((H3.out _)).mono ?_
  rintro e w3 ⟨rfl, hw3⟩
  have cw3_2_0 := cu hw3 (W.heap.size + 1 + 1) 0 0 (by go_simp)
  have fw3_2_0 := fq hw3 (W.heap.size + 1 + 1) 0 (.int .u64 0) (by go_simp) (by go_simp)
  have cw3_2_1 := cu hw3 (W.heap.size + 1 + 1) 1 0 (by go_simp)
  have fw3_2_1 := fq hw3 (W.heap.size + 1 + 1) 1 (.int .u64 0) (by go_simp) (by go_simp)
  have cw3_2_2 := cu hw3 (W.heap.size + 1 + 1) 2 0 (by go_simp)
  have fw3_2_2 := fq hw3 (W.heap.size + 1 + 1) 2 (.int .u64 0) (by go_simp) (by go_simp)
  have gw3 : Gr W w3 := Gr.trans (by have gg := gw2; have gs := gg.size; go_grown) hw3
  clear hw3 gw2 cw2_0_0 cw2_0_1 cw2_0_2 cw2_0_3 cw2_1_0 cw2_1_1 cw2_2_0 fw2_2_0 cw2_2_1 fw2_2_1 cw2_2_2 fw2_2_2
  go_wp2_with fail
  go_at_call 57
  refine ((H4.out _)).mono ?_
  rintro e w4 ⟨rfl, hw4⟩
  have cw4_2_0 := cu hw4 (W.heap.size + 1 + 1) 0 0 (by go_simp)
  have fw4_2_0 := fq hw4 (W.heap.size + 1 + 1) 0 (.int .u64 0) (by go_simp) (by go_simp)
  have cw4_2_1 := cu hw4 (W.heap.size + 1 + 1) 1 0 (by go_simp)
  have fw4_2_1 := fq hw4 (W.heap.size + 1 + 1) 1 (.int .u64 0) (by go_simp) (by go_simp)
  have cw4_2_2 := cu hw4 (W.heap.size + 1 + 1) 2 0 (by go_simp)
  have fw4_2_2 := fq hw4 (W.heap.size + 1 + 1) 2 (.int .u64 0) (by go_simp) (by go_simp)
  have gw4 : Gr W w4 := Gr.trans (by have gg := gw3; have gs := gg.size; go_grown) hw4
  clear hw4 gw3 cw3_2_0 fw3_2_0 cw3_2_1 fw3_2_1 cw3_2_2 fw3_2_2
  go_wp2_with fail
  refine bodyPost_ret (v := .agg #[.int .u64 0, .int .u64 s, .int .u64 1]) (by simp [results, Tryz.results30, go_sem, *]) rfl ⟨rfl, by go_grown⟩
end Go.Proofs.YtfobmlgpjhghdaaGreatDoor
namespace Go.Proofs.YtfobmlgpjhghdaaGreatDoor
set_option linter.unusedVariables false
open Go.ChangeShapes Go.WideShapes Go.ChangeAt Go.RowKit
theorem cells2n (w : World) (B : Nat) (x y : Value) (h0 : w.cell? ⟨B, 0, none⟩ = some x) (h1 : w.cell? ⟨B, 1, none⟩ = some y) : ∀ (j : Nat) u, [x, y][j]? = some u → w.cell? ((⟨B, 0, none⟩ : Addr).add j) = some u := by
  intro j u h
  match j with
  | 0 => simp at h; subst h; exact h0
  | 1 => simp at h; subst h; exact h1
  | k + 2 => simp at h
theorem one2 (x y : Int) : ∀ u ∈ [Value.int .u64 x, Value.int .u64 y], u.oneCell' = true := by
  intro u h
  simp at h
  rcases h with rfl | rfl <;> rfl
theorem grown_of_gr {a b : World} (g : Gr a b) (r : Option Nat) : a.grownBy b r := ⟨g.os, g.tape, g.output, g.size, fun k hk _ => g.block k hk⟩
theorem own_gr {a b : World} {base e size n : Nat} {v : Value} {xs : List Value} (h : a.ownsRow base e size v n xs) (g : Gr a b) : b.ownsRow base e size v n xs :=
  h.kept (grown_of_gr g none) (by
    rcases hh : v.ownBlock with _ | k
    · exact Or.inl rfl
    · exact Or.inr (by simp))
set_option maxHeartbeats 2000000 in
set_option maxRecDepth 100000 in
theorem words2_walk (x y xl xh yl yh b : Nat) (w : World) (q1 : bits BinOp.and IntKind.u64 (x : Int) 4294967295 = (xl : Int)) (q2 : (x : Int) / 4294967296 = (xh : Int)) (p1 : bits BinOp.and IntKind.u64 (y : Int) 4294967295 = (yl : Int)) (p2 : (y : Int) / 4294967296 = (yh : Int))
    (hb : b < w.heap.size) (k0 : w.cell? ⟨b, 0, none⟩ = some (.int .u64 x)) (k1 : w.cell? ⟨b, 1, none⟩ = some (.int .u64 y)) :
    Calls Tryz.prog 129 #[.slice (some ⟨b, 0, none⟩) 2 2] w fun e w' => ∃ B cap, e = .returned (.slice (some ⟨B, 0, none⟩) 4 cap) ∧ w.heap.size ≤ B ∧ w'.cell? ⟨B, 0, none⟩ = some (.int .u64 xl) ∧ w'.cell? ⟨B, 1, none⟩ = some (.int .u64 xh) ∧ w'.cell? ⟨B, 2, none⟩ = some (.int .u64 yl) ∧ w'.cell? ⟨B, 3, none⟩ = some (.int .u64 yh) ∧ Gr w w' := by
  obtain ⟨i0, hi, hz0, hz1, hz2⟩ := info_parts (P := Tryz.prog) (e := 40) (z := .int .u64 0) (size := 1) (bytes := 8) (by kernel_rfl)
  have HI := Lib.hid hi
  have HZ0 := Lib.hid hz0
  have HZ1 := Lib.hid hz1
  have HZ2 := Lib.hid hz2
  clear hi hz0 hz1 hz2
  go_enter Tryz.func129, Tryz.ntmps129
  go_wp2_with fail
  refine wp_loop_rounds 3 ?_
  rw [rounds_succ]
  go_wp2_with fail
  let Rc : World → Prop := fun w' => Gr w w'
  refine Hd.wp_region_head 12 11 Rc Rc (fun v w' => Rc w' ∧ ∃ B, v = .slice (some ⟨B, 0, none⟩) 2 2 ∧ w.heap.size ≤ B ∧ w'.cell? ⟨B, 0, none⟩ = some (.int .u64 xl) ∧ w'.cell? ⟨B, 1, none⟩ = some (.int .u64 xh)) (by kernel_rfl) (by simp only [List.getElem?_toArray, List.getElem?_cons_succ, List.getElem?_cons_zero] <;> rfl) (by kernel_rfl) (by intro cs b h; cases h) ?_ ?_ ?_ ?_ ?_ ?_
  · intro a b h g; exact Gr.trans h g
  · rintro v a b ⟨h, B, e, hB, c0, c1⟩ g
    exact ⟨Gr.trans h g, B, e, hB, cell_gr g c0, cell_gr g c1⟩
  · intro a h; exact h
  · intro v a h; exact h.1
  · show Gr _ _
    go_grown
  · intro KQ hKQ
    repeat (first | (refine Hd.wpG_skip (by decide) rfl ?_; simp only [Act.put, List.setIfInBounds_toArray, List.set_cons_zero, List.set_cons_succ]) | (refine Hd.wpG_want (by decide) rfl ?_; apply Exists.intro; refine ⟨?_, ?_⟩; (· intro wx gx; (have gx0 := cell_gr gx k0; clear gx); all_goals (apply Hd.gAt_of_quiet; intro K hK; go_big_quiet_op; first | exact hK _ rfl | (apply Exists.intro; refine ⟨fun _ => ?_, ?_⟩; (· (fail)); exact hK _ rfl))); try simp only [Act.put, List.setIfInBounds_toArray, List.set_cons_zero, List.set_cons_succ]))
    refine Hd.wpG_k (by decide) ?_ ?_
    · rintro w' gx
      unfold Oper.wp
      go_simp
      change Gr w w' at gx
      have gs := gx.size
      exact ⟨(show Gr w _ by go_grown), gs⟩
    refine Hd.wpG_nil (hKQ _ ?_)
    clear hKQ KQ
    rintro v w1 ⟨gx, B, rfl, hB, b0, b1⟩
    change Gr w w1 at gx
    clear Rc
    refine wpList_append_own _ rfl _ _ 158 rfl w.heap.size 40 i0 (.int .u64 0) 1 8 Tryz.underlying158 HI.out HZ0.out HZ1.out HZ2.out rfl (by decide) (.slice none 0 0) 0 [] rfl (World.ownsRow_nil _ _ _ _) ⟨B, 0, none⟩ 2 2 [.int .u64 xl, .int .u64 xh] rfl rfl (cells2n _ _ _ _ b0 b1) (one2 _ _) (by unfold maxLen; omega) (by omega) gx.size ?_
    intro v1 w2 own1 grow1 nil1
    have gw2 : Gr w w2 := gr_of_grown gx grow1 (fun k h => by cases h)
    have l0 := cell_gr gw2 k1
    have HO := Lib.hid own1
    clear own1 grow1 nil1 gx b0 b1 hB
    go_wp2_with fail
    rw [rounds_succ]
    go_wp2_with fail
    let Rd : World → Prop := fun w' => Gr w2 w'
    refine Hd.wp_region_head 12 11 Rd Rd (fun v w' => Rd w' ∧ ∃ B, v = .slice (some ⟨B, 0, none⟩) 2 2 ∧ w2.heap.size ≤ B ∧ w'.cell? ⟨B, 0, none⟩ = some (.int .u64 yl) ∧ w'.cell? ⟨B, 1, none⟩ = some (.int .u64 yh)) (by kernel_rfl) (by simp only [List.getElem?_toArray, List.getElem?_cons_succ, List.getElem?_cons_zero] <;> rfl) (by kernel_rfl) (by intro cs b h; cases h) ?_ ?_ ?_ ?_ ?_ ?_
    · intro a b h g; exact Gr.trans h g
    · rintro v a b ⟨h, B, e, hB, c0, c1⟩ g
      exact ⟨Gr.trans h g, B, e, hB, cell_gr g c0, cell_gr g c1⟩
    · intro a h; exact h
    · intro v a h; exact h.1
    · show Gr _ _
      go_grown
    · intro KQ hKQ
      repeat (first | (refine Hd.wpG_skip (by decide) rfl ?_; simp only [Act.put, List.setIfInBounds_toArray, List.set_cons_zero, List.set_cons_succ]) | (refine Hd.wpG_want (by decide) rfl ?_; apply Exists.intro; refine ⟨?_, ?_⟩; (· intro wx gx; (have gx0 := cell_gr gx l0; clear gx); all_goals (apply Hd.gAt_of_quiet; intro K hK; go_big_quiet_op; first | exact hK _ rfl | (apply Exists.intro; refine ⟨fun _ => ?_, ?_⟩; (· (fail)); exact hK _ rfl))); try simp only [Act.put, List.setIfInBounds_toArray, List.set_cons_zero, List.set_cons_succ]))
      refine Hd.wpG_k (by decide) ?_ ?_
      · rintro w' gx
        unfold Oper.wp
        go_simp
        change Gr w2 w' at gx
        have gs := gx.size
        exact ⟨(show Gr w2 _ by go_grown), gs⟩
      refine Hd.wpG_nil (hKQ _ ?_)
      clear hKQ KQ
      rintro v w3 ⟨gx, B', rfl, hB', d0, d1⟩
      change Gr w2 w3 at gx
      clear Rd
      have gw3 := Gr.trans gw2 gx
      refine wpList_append_own _ rfl _ _ 158 rfl w.heap.size 40 i0 (.int .u64 0) 1 8 Tryz.underlying158 HI.out HZ0.out HZ1.out HZ2.out rfl (by decide) v1 2 [.int .u64 xl, .int .u64 xh] rfl (own_gr HO.out gx) ⟨B', 0, none⟩ 2 2 [.int .u64 yl, .int .u64 yh] rfl rfl (cells2n _ _ _ _ d0 d1) (one2 _ _) (by unfold maxLen; omega) (by omega) gw3.size ?_
      intro v2 w4 own2 grow2 nil2
      have gw4 : Gr w w4 := gr_of_grown gw3 grow2 (fun k h => (HO.out.lt k h).1)
      have HP := Lib.hid own2
      clear own2 grow2 nil2
      go_wp2_with fail
      rw [rounds_succ]
      go_wp2_with fail
      go_ret
      have own2 := HP.out
      obtain ⟨g, cap, cur, rfl, hg, -⟩ : ∃ g cap cur, v2 = .slice (some ⟨g, 0, none⟩) 4 cap ∧ w.heap.size ≤ g ∧ w4.heap[g]? = some (.cells cur 40 (0, 0)) := by
        rcases own2.2 with ⟨_, h⟩ | ⟨g, cap, cur, e, hg, hh, _⟩
        · omega
        · exact ⟨g, cap, cur, e, hg, hh⟩
      exact ⟨g, cap, rfl, hg, own2.cellAt 0 (by decide), own2.cellAt 1 (by decide), own2.cellAt 2 (by decide), own2.cellAt 3 (by decide), gw4⟩
theorem make6 (w : World) : (Instr.makeSlice 158 (.int .i64 6) (.int .i64 6)).run Tryz.prog w = .ok (.slice (some ⟨w.heap.size, 0, none⟩) 6 6) (w.alloc (.cells #[.int .u64 0, .int .u64 0, .int .u64 0, .int .u64 0, .int .u64 0, .int .u64 0] 40)) := by kernel_rfl
set_option maxHeartbeats 4000000 in
set_option maxRecDepth 100000 in
theorem times42_walk (a0 a1 a2 a3 b0 b1 p00 o00 c00 p01 v01 o01 c01 p10 t10 o10 c10 p11 t11 v11 o11 c11 p20 t20 o20 c20 p21 t21 v21 o21 c21 p30 t30 o30 c30 p31 t31 v31 o31 c31 : Nat) (A B ca cb : Nat) (w : World) (hA : A < w.heap.size) (hB : B < w.heap.size)
    (ka0 : w.cell? ⟨A, 0, none⟩ = some (.int .u64 a0)) (ka1 : w.cell? ⟨A, 1, none⟩ = some (.int .u64 a1)) (ka2 : w.cell? ⟨A, 2, none⟩ = some (.int .u64 a2)) (ka3 : w.cell? ⟨A, 3, none⟩ = some (.int .u64 a3)) (kb0 : w.cell? ⟨B, 0, none⟩ = some (.int .u64 b0)) (kb1 : w.cell? ⟨B, 1, none⟩ = some (.int .u64 b1))
    (m00 : IntKind.u64.wrap ((a0 : Int) * (b0 : Int)) = (p00 : Int))
    (n00 : IntKind.u64.wrap ((p00 : Int)) = (p00 : Int))
    (x00 : bits BinOp.and IntKind.u64 (p00 : Int) 4294967295 = (o00 : Int))
    (y00 : (p00 : Int) / 4294967296 = (c00 : Int))
    (m01 : IntKind.u64.wrap ((a0 : Int) * (b1 : Int)) = (p01 : Int))
    (n01 : IntKind.u64.wrap ((p01 : Int)) = (p01 : Int))
    (r01 : IntKind.u64.wrap ((p01 : Int) + (c00 : Int)) = (v01 : Int))
    (x01 : bits BinOp.and IntKind.u64 (v01 : Int) 4294967295 = (o01 : Int))
    (y01 : (v01 : Int) / 4294967296 = (c01 : Int))
    (m10 : IntKind.u64.wrap ((a1 : Int) * (b0 : Int)) = (p10 : Int))
    (s10 : IntKind.u64.wrap ((p10 : Int) + (o01 : Int)) = (t10 : Int))
    (r10 : IntKind.u64.wrap ((t10 : Int)) = (t10 : Int))
    (x10 : bits BinOp.and IntKind.u64 (t10 : Int) 4294967295 = (o10 : Int))
    (y10 : (t10 : Int) / 4294967296 = (c10 : Int))
    (m11 : IntKind.u64.wrap ((a1 : Int) * (b1 : Int)) = (p11 : Int))
    (s11 : IntKind.u64.wrap ((p11 : Int) + (c01 : Int)) = (t11 : Int))
    (r11 : IntKind.u64.wrap ((t11 : Int) + (c10 : Int)) = (v11 : Int))
    (x11 : bits BinOp.and IntKind.u64 (v11 : Int) 4294967295 = (o11 : Int))
    (y11 : (v11 : Int) / 4294967296 = (c11 : Int))
    (m20 : IntKind.u64.wrap ((a2 : Int) * (b0 : Int)) = (p20 : Int))
    (s20 : IntKind.u64.wrap ((p20 : Int) + (o11 : Int)) = (t20 : Int))
    (r20 : IntKind.u64.wrap ((t20 : Int)) = (t20 : Int))
    (x20 : bits BinOp.and IntKind.u64 (t20 : Int) 4294967295 = (o20 : Int))
    (y20 : (t20 : Int) / 4294967296 = (c20 : Int))
    (m21 : IntKind.u64.wrap ((a2 : Int) * (b1 : Int)) = (p21 : Int))
    (s21 : IntKind.u64.wrap ((p21 : Int) + (c11 : Int)) = (t21 : Int))
    (r21 : IntKind.u64.wrap ((t21 : Int) + (c20 : Int)) = (v21 : Int))
    (x21 : bits BinOp.and IntKind.u64 (v21 : Int) 4294967295 = (o21 : Int))
    (y21 : (v21 : Int) / 4294967296 = (c21 : Int))
    (m30 : IntKind.u64.wrap ((a3 : Int) * (b0 : Int)) = (p30 : Int))
    (s30 : IntKind.u64.wrap ((p30 : Int) + (o21 : Int)) = (t30 : Int))
    (r30 : IntKind.u64.wrap ((t30 : Int)) = (t30 : Int))
    (x30 : bits BinOp.and IntKind.u64 (t30 : Int) 4294967295 = (o30 : Int))
    (y30 : (t30 : Int) / 4294967296 = (c30 : Int))
    (m31 : IntKind.u64.wrap ((a3 : Int) * (b1 : Int)) = (p31 : Int))
    (s31 : IntKind.u64.wrap ((p31 : Int) + (c21 : Int)) = (t31 : Int))
    (r31 : IntKind.u64.wrap ((t31 : Int) + (c30 : Int)) = (v31 : Int))
    (x31 : bits BinOp.and IntKind.u64 (v31 : Int) 4294967295 = (o31 : Int))
    (y31 : (v31 : Int) / 4294967296 = (c31 : Int)) :
    Calls Tryz.prog 128 #[.slice (some ⟨A, 0, none⟩) 4 ca, .slice (some ⟨B, 0, none⟩) 2 cb] w fun e w' => ∃ O, e = .returned (.slice (some ⟨O, 0, none⟩) 6 6) ∧ w'.cell? ⟨O, 0, none⟩ = some (.int .u64 o00) ∧ w'.cell? ⟨O, 1, none⟩ = some (.int .u64 o10) ∧ w'.cell? ⟨O, 2, none⟩ = some (.int .u64 o20) ∧ w'.cell? ⟨O, 3, none⟩ = some (.int .u64 o30) ∧ w'.cell? ⟨O, 4, none⟩ = some (.int .u64 o31) ∧ w'.cell? ⟨O, 5, none⟩ = some (.int .u64 c31) ∧ Gr w w' := by
  have hm := make6
  go_enter Tryz.func128, Tryz.ntmps128
  go_wp2_with fail
  refine wp_loop_rounds 5 ?_
  rw [rounds_succ]
  go_wp2_with fail
  refine wp_loop_rounds 3 ?_
  rw [rounds_succ]
  go_wp2_with fail
  generalize hhw0 : (w.alloc (.cells #[.int .u64 0, .int .u64 0, .int .u64 0, .int .u64 0, .int .u64 0, .int .u64 0] 40)) = w0
  have cw0_0_0 : w0.cell? ⟨A, 0, none⟩ = some (.int .u64 a0) := by subst hhw0; go_simp
  have cw0_0_1 : w0.cell? ⟨A, 1, none⟩ = some (.int .u64 a1) := by subst hhw0; go_simp
  have cw0_0_2 : w0.cell? ⟨A, 2, none⟩ = some (.int .u64 a2) := by subst hhw0; go_simp
  have cw0_0_3 : w0.cell? ⟨A, 3, none⟩ = some (.int .u64 a3) := by subst hhw0; go_simp
  have zw0_0 := zb cw0_0_0
  have cw0_1_0 : w0.cell? ⟨B, 0, none⟩ = some (.int .u64 b0) := by subst hhw0; go_simp
  have cw0_1_1 : w0.cell? ⟨B, 1, none⟩ = some (.int .u64 b1) := by subst hhw0; go_simp
  have zw0_1 := zb cw0_1_0
  have cw0_2_0 : w0.cell? ⟨w.heap.size, 0, none⟩ = some (.int .u64 0) := by subst hhw0; go_simp
  have fw0_2_0 : w0.frozen? ⟨w.heap.size, 0, none⟩ = false := by subst hhw0; go_simp
  have cw0_2_1 : w0.cell? ⟨w.heap.size, 1, none⟩ = some (.int .u64 0) := by subst hhw0; go_simp
  have fw0_2_1 : w0.frozen? ⟨w.heap.size, 1, none⟩ = false := by subst hhw0; go_simp
  have cw0_2_2 : w0.cell? ⟨w.heap.size, 2, none⟩ = some (.int .u64 0) := by subst hhw0; go_simp
  have fw0_2_2 : w0.frozen? ⟨w.heap.size, 2, none⟩ = false := by subst hhw0; go_simp
  have cw0_2_3 : w0.cell? ⟨w.heap.size, 3, none⟩ = some (.int .u64 0) := by subst hhw0; go_simp
  have fw0_2_3 : w0.frozen? ⟨w.heap.size, 3, none⟩ = false := by subst hhw0; go_simp
  have cw0_2_4 : w0.cell? ⟨w.heap.size, 4, none⟩ = some (.int .u64 0) := by subst hhw0; go_simp
  have fw0_2_4 : w0.frozen? ⟨w.heap.size, 4, none⟩ = false := by subst hhw0; go_simp
  have cw0_2_5 : w0.cell? ⟨w.heap.size, 5, none⟩ = some (.int .u64 0) := by subst hhw0; go_simp
  have fw0_2_5 : w0.frozen? ⟨w.heap.size, 5, none⟩ = false := by subst hhw0; go_simp
  have zw0_2 := zb cw0_2_0
  have gw0 : Gr w w0 := by subst hhw0; go_grown
  clear hhw0
  go_wp2_with fail
  refine Hd.wp_region_tail 18 (by kernel_rfl) (by kernel_rfl) ?_
  intro KQ hKQ
  repeat (first | (refine Hd.wpG_skip (by decide) rfl ?_; simp only [Act.put, List.setIfInBounds_toArray, List.set_cons_zero, List.set_cons_succ]) | (refine Hd.wpG_want (by decide) rfl ?_; apply Exists.intro; refine ⟨?_, ?_⟩; (· intro wx gx; (obtain ⟨mx, rfl⟩ := gx); all_goals (apply Hd.gAt_of_quiet; intro K hK; go_big_quiet_op; first | exact hK _ rfl | (apply Exists.intro; refine ⟨fun _ => ?_, ?_⟩; (· fail); exact hK _ rfl))); try simp only [Act.put, List.setIfInBounds_toArray, List.set_cons_zero, List.set_cons_succ]))
  refine Hd.wpG_nil (hKQ _ ?_)
  clear hKQ KQ
  intro w1 hhw1
  have hw1 := Hd.gr_of_spread hhw1
  have cw1_0_0 := cu hw1 A 0 a0 (by go_simp)
  have cw1_0_1 := cu hw1 A 1 a1 (by go_simp)
  have cw1_0_2 := cu hw1 A 2 a2 (by go_simp)
  have cw1_0_3 := cu hw1 A 3 a3 (by go_simp)
  have cw1_1_0 := cu hw1 B 0 b0 (by go_simp)
  have cw1_1_1 := cu hw1 B 1 b1 (by go_simp)
  have cw1_2_0 := cu hw1 (w.heap.size) 0 0 (by go_simp)
  have fw1_2_0 := fq hw1 (w.heap.size) 0 (.int .u64 0) (by go_simp) (by go_simp)
  have cw1_2_1 := cu hw1 (w.heap.size) 1 0 (by go_simp)
  have fw1_2_1 := fq hw1 (w.heap.size) 1 (.int .u64 0) (by go_simp) (by go_simp)
  have cw1_2_2 := cu hw1 (w.heap.size) 2 0 (by go_simp)
  have fw1_2_2 := fq hw1 (w.heap.size) 2 (.int .u64 0) (by go_simp) (by go_simp)
  have cw1_2_3 := cu hw1 (w.heap.size) 3 0 (by go_simp)
  have fw1_2_3 := fq hw1 (w.heap.size) 3 (.int .u64 0) (by go_simp) (by go_simp)
  have cw1_2_4 := cu hw1 (w.heap.size) 4 0 (by go_simp)
  have fw1_2_4 := fq hw1 (w.heap.size) 4 (.int .u64 0) (by go_simp) (by go_simp)
  have cw1_2_5 := cu hw1 (w.heap.size) 5 0 (by go_simp)
  have fw1_2_5 := fq hw1 (w.heap.size) 5 (.int .u64 0) (by go_simp) (by go_simp)
  have gw1 : Gr w w1 := Gr.trans (by have gg := gw0; have gs := gg.size; go_grown) hw1
  clear hw1 hhw1 gw0 zw0_0 cw0_0_0 cw0_0_1 cw0_0_2 cw0_0_3 zw0_1 cw0_1_0 cw0_1_1 zw0_2 cw0_2_0 fw0_2_0 cw0_2_1 fw0_2_1 cw0_2_2 fw0_2_2 cw0_2_3 fw0_2_3 cw0_2_4 fw0_2_4 cw0_2_5 fw0_2_5
  go_wp2_with fail
  rw [rounds_succ]
  go_wp2_with fail
  generalize hhw2 : (w1.setCell ⟨w.heap.size, 0, none⟩ (.int .u64 o00)) = w2
  have cw2_0_0 : w2.cell? ⟨A, 0, none⟩ = some (.int .u64 a0) := by subst hhw2; go_simp
  have cw2_0_1 : w2.cell? ⟨A, 1, none⟩ = some (.int .u64 a1) := by subst hhw2; go_simp
  have cw2_0_2 : w2.cell? ⟨A, 2, none⟩ = some (.int .u64 a2) := by subst hhw2; go_simp
  have cw2_0_3 : w2.cell? ⟨A, 3, none⟩ = some (.int .u64 a3) := by subst hhw2; go_simp
  have zw2_0 := zb cw2_0_0
  have cw2_1_0 : w2.cell? ⟨B, 0, none⟩ = some (.int .u64 b0) := by subst hhw2; go_simp
  have cw2_1_1 : w2.cell? ⟨B, 1, none⟩ = some (.int .u64 b1) := by subst hhw2; go_simp
  have zw2_1 := zb cw2_1_0
  have cw2_2_0 : w2.cell? ⟨w.heap.size, 0, none⟩ = some (.int .u64 o00) := by subst hhw2; go_simp
  have fw2_2_0 : w2.frozen? ⟨w.heap.size, 0, none⟩ = false := by subst hhw2; go_simp
  have cw2_2_1 : w2.cell? ⟨w.heap.size, 1, none⟩ = some (.int .u64 0) := by subst hhw2; go_simp
  have fw2_2_1 : w2.frozen? ⟨w.heap.size, 1, none⟩ = false := by subst hhw2; go_simp
  have cw2_2_2 : w2.cell? ⟨w.heap.size, 2, none⟩ = some (.int .u64 0) := by subst hhw2; go_simp
  have fw2_2_2 : w2.frozen? ⟨w.heap.size, 2, none⟩ = false := by subst hhw2; go_simp
  have cw2_2_3 : w2.cell? ⟨w.heap.size, 3, none⟩ = some (.int .u64 0) := by subst hhw2; go_simp
  have fw2_2_3 : w2.frozen? ⟨w.heap.size, 3, none⟩ = false := by subst hhw2; go_simp
  have cw2_2_4 : w2.cell? ⟨w.heap.size, 4, none⟩ = some (.int .u64 0) := by subst hhw2; go_simp
  have fw2_2_4 : w2.frozen? ⟨w.heap.size, 4, none⟩ = false := by subst hhw2; go_simp
  have cw2_2_5 : w2.cell? ⟨w.heap.size, 5, none⟩ = some (.int .u64 0) := by subst hhw2; go_simp
  have fw2_2_5 : w2.frozen? ⟨w.heap.size, 5, none⟩ = false := by subst hhw2; go_simp
  have zw2_2 := zb cw2_2_0
  have gw2 : Gr w w2 := by subst hhw2; have gg := gw1; have gs := gg.size; go_grown
  clear hhw2 gw1 cw1_0_0 cw1_0_1 cw1_0_2 cw1_0_3 cw1_1_0 cw1_1_1 cw1_2_0 fw1_2_0 cw1_2_1 fw1_2_1 cw1_2_2 fw1_2_2 cw1_2_3 fw1_2_3 cw1_2_4 fw1_2_4 cw1_2_5 fw1_2_5
  go_wp2_with fail
  refine Hd.wp_region_tail 18 (by kernel_rfl) (by kernel_rfl) ?_
  intro KQ hKQ
  repeat (first | (refine Hd.wpG_skip (by decide) rfl ?_; simp only [Act.put, List.setIfInBounds_toArray, List.set_cons_zero, List.set_cons_succ]) | (refine Hd.wpG_want (by decide) rfl ?_; apply Exists.intro; refine ⟨?_, ?_⟩; (· intro wx gx; (obtain ⟨mx, rfl⟩ := gx); all_goals (apply Hd.gAt_of_quiet; intro K hK; go_big_quiet_op; first | exact hK _ rfl | (apply Exists.intro; refine ⟨fun _ => ?_, ?_⟩; (· fail); exact hK _ rfl))); try simp only [Act.put, List.setIfInBounds_toArray, List.set_cons_zero, List.set_cons_succ]))
  refine Hd.wpG_nil (hKQ _ ?_)
  clear hKQ KQ
  intro w3 hhw3
  have hw3 := Hd.gr_of_spread hhw3
  have cw3_0_0 := cu hw3 A 0 a0 (by go_simp)
  have cw3_0_1 := cu hw3 A 1 a1 (by go_simp)
  have cw3_0_2 := cu hw3 A 2 a2 (by go_simp)
  have cw3_0_3 := cu hw3 A 3 a3 (by go_simp)
  have cw3_1_0 := cu hw3 B 0 b0 (by go_simp)
  have cw3_1_1 := cu hw3 B 1 b1 (by go_simp)
  have cw3_2_0 := cu hw3 (w.heap.size) 0 o00 (by go_simp)
  have fw3_2_0 := fq hw3 (w.heap.size) 0 (.int .u64 o00) (by go_simp) (by go_simp)
  have cw3_2_1 := cu hw3 (w.heap.size) 1 0 (by go_simp)
  have fw3_2_1 := fq hw3 (w.heap.size) 1 (.int .u64 0) (by go_simp) (by go_simp)
  have cw3_2_2 := cu hw3 (w.heap.size) 2 0 (by go_simp)
  have fw3_2_2 := fq hw3 (w.heap.size) 2 (.int .u64 0) (by go_simp) (by go_simp)
  have cw3_2_3 := cu hw3 (w.heap.size) 3 0 (by go_simp)
  have fw3_2_3 := fq hw3 (w.heap.size) 3 (.int .u64 0) (by go_simp) (by go_simp)
  have cw3_2_4 := cu hw3 (w.heap.size) 4 0 (by go_simp)
  have fw3_2_4 := fq hw3 (w.heap.size) 4 (.int .u64 0) (by go_simp) (by go_simp)
  have cw3_2_5 := cu hw3 (w.heap.size) 5 0 (by go_simp)
  have fw3_2_5 := fq hw3 (w.heap.size) 5 (.int .u64 0) (by go_simp) (by go_simp)
  have gw3 : Gr w w3 := Gr.trans (by have gg := gw2; have gs := gg.size; go_grown) hw3
  clear hw3 hhw3 gw2 zw2_0 cw2_0_0 cw2_0_1 cw2_0_2 cw2_0_3 zw2_1 cw2_1_0 cw2_1_1 zw2_2 cw2_2_0 fw2_2_0 cw2_2_1 fw2_2_1 cw2_2_2 fw2_2_2 cw2_2_3 fw2_2_3 cw2_2_4 fw2_2_4 cw2_2_5 fw2_2_5
  go_wp2_with fail
  rw [rounds_succ]
  go_wp2_with fail
  generalize hhw4 : (w3.setCell ⟨w.heap.size, 1, none⟩ (.int .u64 o01)) = w4
  have cw4_0_0 : w4.cell? ⟨A, 0, none⟩ = some (.int .u64 a0) := by subst hhw4; go_simp
  have cw4_0_1 : w4.cell? ⟨A, 1, none⟩ = some (.int .u64 a1) := by subst hhw4; go_simp
  have cw4_0_2 : w4.cell? ⟨A, 2, none⟩ = some (.int .u64 a2) := by subst hhw4; go_simp
  have cw4_0_3 : w4.cell? ⟨A, 3, none⟩ = some (.int .u64 a3) := by subst hhw4; go_simp
  have zw4_0 := zb cw4_0_0
  have cw4_1_0 : w4.cell? ⟨B, 0, none⟩ = some (.int .u64 b0) := by subst hhw4; go_simp
  have cw4_1_1 : w4.cell? ⟨B, 1, none⟩ = some (.int .u64 b1) := by subst hhw4; go_simp
  have zw4_1 := zb cw4_1_0
  have cw4_2_0 : w4.cell? ⟨w.heap.size, 0, none⟩ = some (.int .u64 o00) := by subst hhw4; go_simp
  have fw4_2_0 : w4.frozen? ⟨w.heap.size, 0, none⟩ = false := by subst hhw4; go_simp
  have cw4_2_1 : w4.cell? ⟨w.heap.size, 1, none⟩ = some (.int .u64 o01) := by subst hhw4; go_simp
  have fw4_2_1 : w4.frozen? ⟨w.heap.size, 1, none⟩ = false := by subst hhw4; go_simp
  have cw4_2_2 : w4.cell? ⟨w.heap.size, 2, none⟩ = some (.int .u64 0) := by subst hhw4; go_simp
  have fw4_2_2 : w4.frozen? ⟨w.heap.size, 2, none⟩ = false := by subst hhw4; go_simp
  have cw4_2_3 : w4.cell? ⟨w.heap.size, 3, none⟩ = some (.int .u64 0) := by subst hhw4; go_simp
  have fw4_2_3 : w4.frozen? ⟨w.heap.size, 3, none⟩ = false := by subst hhw4; go_simp
  have cw4_2_4 : w4.cell? ⟨w.heap.size, 4, none⟩ = some (.int .u64 0) := by subst hhw4; go_simp
  have fw4_2_4 : w4.frozen? ⟨w.heap.size, 4, none⟩ = false := by subst hhw4; go_simp
  have cw4_2_5 : w4.cell? ⟨w.heap.size, 5, none⟩ = some (.int .u64 0) := by subst hhw4; go_simp
  have fw4_2_5 : w4.frozen? ⟨w.heap.size, 5, none⟩ = false := by subst hhw4; go_simp
  have zw4_2 := zb cw4_2_0
  have gw4 : Gr w w4 := by subst hhw4; have gg := gw3; have gs := gg.size; go_grown
  clear hhw4 gw3 cw3_0_0 cw3_0_1 cw3_0_2 cw3_0_3 cw3_1_0 cw3_1_1 cw3_2_0 fw3_2_0 cw3_2_1 fw3_2_1 cw3_2_2 fw3_2_2 cw3_2_3 fw3_2_3 cw3_2_4 fw3_2_4 cw3_2_5 fw3_2_5
  go_wp2_with fail
  rw [rounds_succ]
  go_wp2_with fail
  generalize hhw5 : (w4.setCell ⟨w.heap.size, 2, none⟩ (.int .u64 c01)) = w5
  have cw5_0_0 : w5.cell? ⟨A, 0, none⟩ = some (.int .u64 a0) := by subst hhw5; go_simp
  have cw5_0_1 : w5.cell? ⟨A, 1, none⟩ = some (.int .u64 a1) := by subst hhw5; go_simp
  have cw5_0_2 : w5.cell? ⟨A, 2, none⟩ = some (.int .u64 a2) := by subst hhw5; go_simp
  have cw5_0_3 : w5.cell? ⟨A, 3, none⟩ = some (.int .u64 a3) := by subst hhw5; go_simp
  have zw5_0 := zb cw5_0_0
  have cw5_1_0 : w5.cell? ⟨B, 0, none⟩ = some (.int .u64 b0) := by subst hhw5; go_simp
  have cw5_1_1 : w5.cell? ⟨B, 1, none⟩ = some (.int .u64 b1) := by subst hhw5; go_simp
  have zw5_1 := zb cw5_1_0
  have cw5_2_0 : w5.cell? ⟨w.heap.size, 0, none⟩ = some (.int .u64 o00) := by subst hhw5; go_simp
  have fw5_2_0 : w5.frozen? ⟨w.heap.size, 0, none⟩ = false := by subst hhw5; go_simp
  have cw5_2_1 : w5.cell? ⟨w.heap.size, 1, none⟩ = some (.int .u64 o01) := by subst hhw5; go_simp
  have fw5_2_1 : w5.frozen? ⟨w.heap.size, 1, none⟩ = false := by subst hhw5; go_simp
  have cw5_2_2 : w5.cell? ⟨w.heap.size, 2, none⟩ = some (.int .u64 c01) := by subst hhw5; go_simp
  have fw5_2_2 : w5.frozen? ⟨w.heap.size, 2, none⟩ = false := by subst hhw5; go_simp
  have cw5_2_3 : w5.cell? ⟨w.heap.size, 3, none⟩ = some (.int .u64 0) := by subst hhw5; go_simp
  have fw5_2_3 : w5.frozen? ⟨w.heap.size, 3, none⟩ = false := by subst hhw5; go_simp
  have cw5_2_4 : w5.cell? ⟨w.heap.size, 4, none⟩ = some (.int .u64 0) := by subst hhw5; go_simp
  have fw5_2_4 : w5.frozen? ⟨w.heap.size, 4, none⟩ = false := by subst hhw5; go_simp
  have cw5_2_5 : w5.cell? ⟨w.heap.size, 5, none⟩ = some (.int .u64 0) := by subst hhw5; go_simp
  have fw5_2_5 : w5.frozen? ⟨w.heap.size, 5, none⟩ = false := by subst hhw5; go_simp
  have zw5_2 := zb cw5_2_0
  have gw5 : Gr w w5 := by subst hhw5; have gg := gw4; have gs := gg.size; go_grown
  clear hhw5 gw4 zw4_0 cw4_0_0 cw4_0_1 cw4_0_2 cw4_0_3 zw4_1 cw4_1_0 cw4_1_1 zw4_2 cw4_2_0 fw4_2_0 cw4_2_1 fw4_2_1 cw4_2_2 fw4_2_2 cw4_2_3 fw4_2_3 cw4_2_4 fw4_2_4 cw4_2_5 fw4_2_5
  refine wp_loop_rounds 3 ?_
  rw [rounds_succ]
  go_wp2_with fail
  refine Hd.wp_region_tail 18 (by kernel_rfl) (by kernel_rfl) ?_
  intro KQ hKQ
  repeat (first | (refine Hd.wpG_skip (by decide) rfl ?_; simp only [Act.put, List.setIfInBounds_toArray, List.set_cons_zero, List.set_cons_succ]) | (refine Hd.wpG_want (by decide) rfl ?_; apply Exists.intro; refine ⟨?_, ?_⟩; (· intro wx gx; (obtain ⟨mx, rfl⟩ := gx); all_goals (apply Hd.gAt_of_quiet; intro K hK; go_big_quiet_op; first | exact hK _ rfl | (apply Exists.intro; refine ⟨fun _ => ?_, ?_⟩; (· fail); exact hK _ rfl))); try simp only [Act.put, List.setIfInBounds_toArray, List.set_cons_zero, List.set_cons_succ]))
  refine Hd.wpG_nil (hKQ _ ?_)
  clear hKQ KQ
  intro w6 hhw6
  have hw6 := Hd.gr_of_spread hhw6
  have cw6_0_0 := cu hw6 A 0 a0 (by go_simp)
  have cw6_0_1 := cu hw6 A 1 a1 (by go_simp)
  have cw6_0_2 := cu hw6 A 2 a2 (by go_simp)
  have cw6_0_3 := cu hw6 A 3 a3 (by go_simp)
  have cw6_1_0 := cu hw6 B 0 b0 (by go_simp)
  have cw6_1_1 := cu hw6 B 1 b1 (by go_simp)
  have cw6_2_0 := cu hw6 (w.heap.size) 0 o00 (by go_simp)
  have fw6_2_0 := fq hw6 (w.heap.size) 0 (.int .u64 o00) (by go_simp) (by go_simp)
  have cw6_2_1 := cu hw6 (w.heap.size) 1 o01 (by go_simp)
  have fw6_2_1 := fq hw6 (w.heap.size) 1 (.int .u64 o01) (by go_simp) (by go_simp)
  have cw6_2_2 := cu hw6 (w.heap.size) 2 c01 (by go_simp)
  have fw6_2_2 := fq hw6 (w.heap.size) 2 (.int .u64 c01) (by go_simp) (by go_simp)
  have cw6_2_3 := cu hw6 (w.heap.size) 3 0 (by go_simp)
  have fw6_2_3 := fq hw6 (w.heap.size) 3 (.int .u64 0) (by go_simp) (by go_simp)
  have cw6_2_4 := cu hw6 (w.heap.size) 4 0 (by go_simp)
  have fw6_2_4 := fq hw6 (w.heap.size) 4 (.int .u64 0) (by go_simp) (by go_simp)
  have cw6_2_5 := cu hw6 (w.heap.size) 5 0 (by go_simp)
  have fw6_2_5 := fq hw6 (w.heap.size) 5 (.int .u64 0) (by go_simp) (by go_simp)
  have gw6 : Gr w w6 := Gr.trans (by have gg := gw5; have gs := gg.size; go_grown) hw6
  clear hw6 hhw6 gw5 zw5_0 cw5_0_0 cw5_0_1 cw5_0_2 cw5_0_3 zw5_1 cw5_1_0 cw5_1_1 zw5_2 cw5_2_0 fw5_2_0 cw5_2_1 fw5_2_1 cw5_2_2 fw5_2_2 cw5_2_3 fw5_2_3 cw5_2_4 fw5_2_4 cw5_2_5 fw5_2_5
  go_wp2_with fail
  rw [rounds_succ]
  go_wp2_with fail
  generalize hhw7 : (w6.setCell ⟨w.heap.size, 1, none⟩ (.int .u64 o10)) = w7
  have cw7_0_0 : w7.cell? ⟨A, 0, none⟩ = some (.int .u64 a0) := by subst hhw7; go_simp
  have cw7_0_1 : w7.cell? ⟨A, 1, none⟩ = some (.int .u64 a1) := by subst hhw7; go_simp
  have cw7_0_2 : w7.cell? ⟨A, 2, none⟩ = some (.int .u64 a2) := by subst hhw7; go_simp
  have cw7_0_3 : w7.cell? ⟨A, 3, none⟩ = some (.int .u64 a3) := by subst hhw7; go_simp
  have zw7_0 := zb cw7_0_0
  have cw7_1_0 : w7.cell? ⟨B, 0, none⟩ = some (.int .u64 b0) := by subst hhw7; go_simp
  have cw7_1_1 : w7.cell? ⟨B, 1, none⟩ = some (.int .u64 b1) := by subst hhw7; go_simp
  have zw7_1 := zb cw7_1_0
  have cw7_2_0 : w7.cell? ⟨w.heap.size, 0, none⟩ = some (.int .u64 o00) := by subst hhw7; go_simp
  have fw7_2_0 : w7.frozen? ⟨w.heap.size, 0, none⟩ = false := by subst hhw7; go_simp
  have cw7_2_1 : w7.cell? ⟨w.heap.size, 1, none⟩ = some (.int .u64 o10) := by subst hhw7; go_simp
  have fw7_2_1 : w7.frozen? ⟨w.heap.size, 1, none⟩ = false := by subst hhw7; go_simp
  have cw7_2_2 : w7.cell? ⟨w.heap.size, 2, none⟩ = some (.int .u64 c01) := by subst hhw7; go_simp
  have fw7_2_2 : w7.frozen? ⟨w.heap.size, 2, none⟩ = false := by subst hhw7; go_simp
  have cw7_2_3 : w7.cell? ⟨w.heap.size, 3, none⟩ = some (.int .u64 0) := by subst hhw7; go_simp
  have fw7_2_3 : w7.frozen? ⟨w.heap.size, 3, none⟩ = false := by subst hhw7; go_simp
  have cw7_2_4 : w7.cell? ⟨w.heap.size, 4, none⟩ = some (.int .u64 0) := by subst hhw7; go_simp
  have fw7_2_4 : w7.frozen? ⟨w.heap.size, 4, none⟩ = false := by subst hhw7; go_simp
  have cw7_2_5 : w7.cell? ⟨w.heap.size, 5, none⟩ = some (.int .u64 0) := by subst hhw7; go_simp
  have fw7_2_5 : w7.frozen? ⟨w.heap.size, 5, none⟩ = false := by subst hhw7; go_simp
  have zw7_2 := zb cw7_2_0
  have gw7 : Gr w w7 := by subst hhw7; have gg := gw6; have gs := gg.size; go_grown
  clear hhw7 gw6 cw6_0_0 cw6_0_1 cw6_0_2 cw6_0_3 cw6_1_0 cw6_1_1 cw6_2_0 fw6_2_0 cw6_2_1 fw6_2_1 cw6_2_2 fw6_2_2 cw6_2_3 fw6_2_3 cw6_2_4 fw6_2_4 cw6_2_5 fw6_2_5
  go_wp2_with fail
  refine Hd.wp_region_tail 18 (by kernel_rfl) (by kernel_rfl) ?_
  intro KQ hKQ
  repeat (first | (refine Hd.wpG_skip (by decide) rfl ?_; simp only [Act.put, List.setIfInBounds_toArray, List.set_cons_zero, List.set_cons_succ]) | (refine Hd.wpG_want (by decide) rfl ?_; apply Exists.intro; refine ⟨?_, ?_⟩; (· intro wx gx; (obtain ⟨mx, rfl⟩ := gx); all_goals (apply Hd.gAt_of_quiet; intro K hK; go_big_quiet_op; first | exact hK _ rfl | (apply Exists.intro; refine ⟨fun _ => ?_, ?_⟩; (· fail); exact hK _ rfl))); try simp only [Act.put, List.setIfInBounds_toArray, List.set_cons_zero, List.set_cons_succ]))
  refine Hd.wpG_nil (hKQ _ ?_)
  clear hKQ KQ
  intro w8 hhw8
  have hw8 := Hd.gr_of_spread hhw8
  have cw8_0_0 := cu hw8 A 0 a0 (by go_simp)
  have cw8_0_1 := cu hw8 A 1 a1 (by go_simp)
  have cw8_0_2 := cu hw8 A 2 a2 (by go_simp)
  have cw8_0_3 := cu hw8 A 3 a3 (by go_simp)
  have cw8_1_0 := cu hw8 B 0 b0 (by go_simp)
  have cw8_1_1 := cu hw8 B 1 b1 (by go_simp)
  have cw8_2_0 := cu hw8 (w.heap.size) 0 o00 (by go_simp)
  have fw8_2_0 := fq hw8 (w.heap.size) 0 (.int .u64 o00) (by go_simp) (by go_simp)
  have cw8_2_1 := cu hw8 (w.heap.size) 1 o10 (by go_simp)
  have fw8_2_1 := fq hw8 (w.heap.size) 1 (.int .u64 o10) (by go_simp) (by go_simp)
  have cw8_2_2 := cu hw8 (w.heap.size) 2 c01 (by go_simp)
  have fw8_2_2 := fq hw8 (w.heap.size) 2 (.int .u64 c01) (by go_simp) (by go_simp)
  have cw8_2_3 := cu hw8 (w.heap.size) 3 0 (by go_simp)
  have fw8_2_3 := fq hw8 (w.heap.size) 3 (.int .u64 0) (by go_simp) (by go_simp)
  have cw8_2_4 := cu hw8 (w.heap.size) 4 0 (by go_simp)
  have fw8_2_4 := fq hw8 (w.heap.size) 4 (.int .u64 0) (by go_simp) (by go_simp)
  have cw8_2_5 := cu hw8 (w.heap.size) 5 0 (by go_simp)
  have fw8_2_5 := fq hw8 (w.heap.size) 5 (.int .u64 0) (by go_simp) (by go_simp)
  have gw8 : Gr w w8 := Gr.trans (by have gg := gw7; have gs := gg.size; go_grown) hw8
  clear hw8 hhw8 gw7 zw7_0 cw7_0_0 cw7_0_1 cw7_0_2 cw7_0_3 zw7_1 cw7_1_0 cw7_1_1 zw7_2 cw7_2_0 fw7_2_0 cw7_2_1 fw7_2_1 cw7_2_2 fw7_2_2 cw7_2_3 fw7_2_3 cw7_2_4 fw7_2_4 cw7_2_5 fw7_2_5
  go_wp2_with fail
  rw [rounds_succ]
  go_wp2_with fail
  generalize hhw9 : (w8.setCell ⟨w.heap.size, 2, none⟩ (.int .u64 o11)) = w9
  have cw9_0_0 : w9.cell? ⟨A, 0, none⟩ = some (.int .u64 a0) := by subst hhw9; go_simp
  have cw9_0_1 : w9.cell? ⟨A, 1, none⟩ = some (.int .u64 a1) := by subst hhw9; go_simp
  have cw9_0_2 : w9.cell? ⟨A, 2, none⟩ = some (.int .u64 a2) := by subst hhw9; go_simp
  have cw9_0_3 : w9.cell? ⟨A, 3, none⟩ = some (.int .u64 a3) := by subst hhw9; go_simp
  have zw9_0 := zb cw9_0_0
  have cw9_1_0 : w9.cell? ⟨B, 0, none⟩ = some (.int .u64 b0) := by subst hhw9; go_simp
  have cw9_1_1 : w9.cell? ⟨B, 1, none⟩ = some (.int .u64 b1) := by subst hhw9; go_simp
  have zw9_1 := zb cw9_1_0
  have cw9_2_0 : w9.cell? ⟨w.heap.size, 0, none⟩ = some (.int .u64 o00) := by subst hhw9; go_simp
  have fw9_2_0 : w9.frozen? ⟨w.heap.size, 0, none⟩ = false := by subst hhw9; go_simp
  have cw9_2_1 : w9.cell? ⟨w.heap.size, 1, none⟩ = some (.int .u64 o10) := by subst hhw9; go_simp
  have fw9_2_1 : w9.frozen? ⟨w.heap.size, 1, none⟩ = false := by subst hhw9; go_simp
  have cw9_2_2 : w9.cell? ⟨w.heap.size, 2, none⟩ = some (.int .u64 o11) := by subst hhw9; go_simp
  have fw9_2_2 : w9.frozen? ⟨w.heap.size, 2, none⟩ = false := by subst hhw9; go_simp
  have cw9_2_3 : w9.cell? ⟨w.heap.size, 3, none⟩ = some (.int .u64 0) := by subst hhw9; go_simp
  have fw9_2_3 : w9.frozen? ⟨w.heap.size, 3, none⟩ = false := by subst hhw9; go_simp
  have cw9_2_4 : w9.cell? ⟨w.heap.size, 4, none⟩ = some (.int .u64 0) := by subst hhw9; go_simp
  have fw9_2_4 : w9.frozen? ⟨w.heap.size, 4, none⟩ = false := by subst hhw9; go_simp
  have cw9_2_5 : w9.cell? ⟨w.heap.size, 5, none⟩ = some (.int .u64 0) := by subst hhw9; go_simp
  have fw9_2_5 : w9.frozen? ⟨w.heap.size, 5, none⟩ = false := by subst hhw9; go_simp
  have zw9_2 := zb cw9_2_0
  have gw9 : Gr w w9 := by subst hhw9; have gg := gw8; have gs := gg.size; go_grown
  clear hhw9 gw8 cw8_0_0 cw8_0_1 cw8_0_2 cw8_0_3 cw8_1_0 cw8_1_1 cw8_2_0 fw8_2_0 cw8_2_1 fw8_2_1 cw8_2_2 fw8_2_2 cw8_2_3 fw8_2_3 cw8_2_4 fw8_2_4 cw8_2_5 fw8_2_5
  go_wp2_with fail
  rw [rounds_succ]
  go_wp2_with fail
  generalize hhw10 : (w9.setCell ⟨w.heap.size, 3, none⟩ (.int .u64 c11)) = w10
  have cw10_0_0 : w10.cell? ⟨A, 0, none⟩ = some (.int .u64 a0) := by subst hhw10; go_simp
  have cw10_0_1 : w10.cell? ⟨A, 1, none⟩ = some (.int .u64 a1) := by subst hhw10; go_simp
  have cw10_0_2 : w10.cell? ⟨A, 2, none⟩ = some (.int .u64 a2) := by subst hhw10; go_simp
  have cw10_0_3 : w10.cell? ⟨A, 3, none⟩ = some (.int .u64 a3) := by subst hhw10; go_simp
  have zw10_0 := zb cw10_0_0
  have cw10_1_0 : w10.cell? ⟨B, 0, none⟩ = some (.int .u64 b0) := by subst hhw10; go_simp
  have cw10_1_1 : w10.cell? ⟨B, 1, none⟩ = some (.int .u64 b1) := by subst hhw10; go_simp
  have zw10_1 := zb cw10_1_0
  have cw10_2_0 : w10.cell? ⟨w.heap.size, 0, none⟩ = some (.int .u64 o00) := by subst hhw10; go_simp
  have fw10_2_0 : w10.frozen? ⟨w.heap.size, 0, none⟩ = false := by subst hhw10; go_simp
  have cw10_2_1 : w10.cell? ⟨w.heap.size, 1, none⟩ = some (.int .u64 o10) := by subst hhw10; go_simp
  have fw10_2_1 : w10.frozen? ⟨w.heap.size, 1, none⟩ = false := by subst hhw10; go_simp
  have cw10_2_2 : w10.cell? ⟨w.heap.size, 2, none⟩ = some (.int .u64 o11) := by subst hhw10; go_simp
  have fw10_2_2 : w10.frozen? ⟨w.heap.size, 2, none⟩ = false := by subst hhw10; go_simp
  have cw10_2_3 : w10.cell? ⟨w.heap.size, 3, none⟩ = some (.int .u64 c11) := by subst hhw10; go_simp
  have fw10_2_3 : w10.frozen? ⟨w.heap.size, 3, none⟩ = false := by subst hhw10; go_simp
  have cw10_2_4 : w10.cell? ⟨w.heap.size, 4, none⟩ = some (.int .u64 0) := by subst hhw10; go_simp
  have fw10_2_4 : w10.frozen? ⟨w.heap.size, 4, none⟩ = false := by subst hhw10; go_simp
  have cw10_2_5 : w10.cell? ⟨w.heap.size, 5, none⟩ = some (.int .u64 0) := by subst hhw10; go_simp
  have fw10_2_5 : w10.frozen? ⟨w.heap.size, 5, none⟩ = false := by subst hhw10; go_simp
  have zw10_2 := zb cw10_2_0
  have gw10 : Gr w w10 := by subst hhw10; have gg := gw9; have gs := gg.size; go_grown
  clear hhw10 gw9 zw9_0 cw9_0_0 cw9_0_1 cw9_0_2 cw9_0_3 zw9_1 cw9_1_0 cw9_1_1 zw9_2 cw9_2_0 fw9_2_0 cw9_2_1 fw9_2_1 cw9_2_2 fw9_2_2 cw9_2_3 fw9_2_3 cw9_2_4 fw9_2_4 cw9_2_5 fw9_2_5
  refine wp_loop_rounds 3 ?_
  rw [rounds_succ]
  go_wp2_with fail
  refine Hd.wp_region_tail 18 (by kernel_rfl) (by kernel_rfl) ?_
  intro KQ hKQ
  repeat (first | (refine Hd.wpG_skip (by decide) rfl ?_; simp only [Act.put, List.setIfInBounds_toArray, List.set_cons_zero, List.set_cons_succ]) | (refine Hd.wpG_want (by decide) rfl ?_; apply Exists.intro; refine ⟨?_, ?_⟩; (· intro wx gx; (obtain ⟨mx, rfl⟩ := gx); all_goals (apply Hd.gAt_of_quiet; intro K hK; go_big_quiet_op; first | exact hK _ rfl | (apply Exists.intro; refine ⟨fun _ => ?_, ?_⟩; (· fail); exact hK _ rfl))); try simp only [Act.put, List.setIfInBounds_toArray, List.set_cons_zero, List.set_cons_succ]))
  refine Hd.wpG_nil (hKQ _ ?_)
  clear hKQ KQ
  intro w11 hhw11
  have hw11 := Hd.gr_of_spread hhw11
  have cw11_0_0 := cu hw11 A 0 a0 (by go_simp)
  have cw11_0_1 := cu hw11 A 1 a1 (by go_simp)
  have cw11_0_2 := cu hw11 A 2 a2 (by go_simp)
  have cw11_0_3 := cu hw11 A 3 a3 (by go_simp)
  have cw11_1_0 := cu hw11 B 0 b0 (by go_simp)
  have cw11_1_1 := cu hw11 B 1 b1 (by go_simp)
  have cw11_2_0 := cu hw11 (w.heap.size) 0 o00 (by go_simp)
  have fw11_2_0 := fq hw11 (w.heap.size) 0 (.int .u64 o00) (by go_simp) (by go_simp)
  have cw11_2_1 := cu hw11 (w.heap.size) 1 o10 (by go_simp)
  have fw11_2_1 := fq hw11 (w.heap.size) 1 (.int .u64 o10) (by go_simp) (by go_simp)
  have cw11_2_2 := cu hw11 (w.heap.size) 2 o11 (by go_simp)
  have fw11_2_2 := fq hw11 (w.heap.size) 2 (.int .u64 o11) (by go_simp) (by go_simp)
  have cw11_2_3 := cu hw11 (w.heap.size) 3 c11 (by go_simp)
  have fw11_2_3 := fq hw11 (w.heap.size) 3 (.int .u64 c11) (by go_simp) (by go_simp)
  have cw11_2_4 := cu hw11 (w.heap.size) 4 0 (by go_simp)
  have fw11_2_4 := fq hw11 (w.heap.size) 4 (.int .u64 0) (by go_simp) (by go_simp)
  have cw11_2_5 := cu hw11 (w.heap.size) 5 0 (by go_simp)
  have fw11_2_5 := fq hw11 (w.heap.size) 5 (.int .u64 0) (by go_simp) (by go_simp)
  have gw11 : Gr w w11 := Gr.trans (by have gg := gw10; have gs := gg.size; go_grown) hw11
  clear hw11 hhw11 gw10 zw10_0 cw10_0_0 cw10_0_1 cw10_0_2 cw10_0_3 zw10_1 cw10_1_0 cw10_1_1 zw10_2 cw10_2_0 fw10_2_0 cw10_2_1 fw10_2_1 cw10_2_2 fw10_2_2 cw10_2_3 fw10_2_3 cw10_2_4 fw10_2_4 cw10_2_5 fw10_2_5
  go_wp2_with fail
  rw [rounds_succ]
  go_wp2_with fail
  generalize hhw12 : (w11.setCell ⟨w.heap.size, 2, none⟩ (.int .u64 o20)) = w12
  have cw12_0_0 : w12.cell? ⟨A, 0, none⟩ = some (.int .u64 a0) := by subst hhw12; go_simp
  have cw12_0_1 : w12.cell? ⟨A, 1, none⟩ = some (.int .u64 a1) := by subst hhw12; go_simp
  have cw12_0_2 : w12.cell? ⟨A, 2, none⟩ = some (.int .u64 a2) := by subst hhw12; go_simp
  have cw12_0_3 : w12.cell? ⟨A, 3, none⟩ = some (.int .u64 a3) := by subst hhw12; go_simp
  have zw12_0 := zb cw12_0_0
  have cw12_1_0 : w12.cell? ⟨B, 0, none⟩ = some (.int .u64 b0) := by subst hhw12; go_simp
  have cw12_1_1 : w12.cell? ⟨B, 1, none⟩ = some (.int .u64 b1) := by subst hhw12; go_simp
  have zw12_1 := zb cw12_1_0
  have cw12_2_0 : w12.cell? ⟨w.heap.size, 0, none⟩ = some (.int .u64 o00) := by subst hhw12; go_simp
  have fw12_2_0 : w12.frozen? ⟨w.heap.size, 0, none⟩ = false := by subst hhw12; go_simp
  have cw12_2_1 : w12.cell? ⟨w.heap.size, 1, none⟩ = some (.int .u64 o10) := by subst hhw12; go_simp
  have fw12_2_1 : w12.frozen? ⟨w.heap.size, 1, none⟩ = false := by subst hhw12; go_simp
  have cw12_2_2 : w12.cell? ⟨w.heap.size, 2, none⟩ = some (.int .u64 o20) := by subst hhw12; go_simp
  have fw12_2_2 : w12.frozen? ⟨w.heap.size, 2, none⟩ = false := by subst hhw12; go_simp
  have cw12_2_3 : w12.cell? ⟨w.heap.size, 3, none⟩ = some (.int .u64 c11) := by subst hhw12; go_simp
  have fw12_2_3 : w12.frozen? ⟨w.heap.size, 3, none⟩ = false := by subst hhw12; go_simp
  have cw12_2_4 : w12.cell? ⟨w.heap.size, 4, none⟩ = some (.int .u64 0) := by subst hhw12; go_simp
  have fw12_2_4 : w12.frozen? ⟨w.heap.size, 4, none⟩ = false := by subst hhw12; go_simp
  have cw12_2_5 : w12.cell? ⟨w.heap.size, 5, none⟩ = some (.int .u64 0) := by subst hhw12; go_simp
  have fw12_2_5 : w12.frozen? ⟨w.heap.size, 5, none⟩ = false := by subst hhw12; go_simp
  have zw12_2 := zb cw12_2_0
  have gw12 : Gr w w12 := by subst hhw12; have gg := gw11; have gs := gg.size; go_grown
  clear hhw12 gw11 cw11_0_0 cw11_0_1 cw11_0_2 cw11_0_3 cw11_1_0 cw11_1_1 cw11_2_0 fw11_2_0 cw11_2_1 fw11_2_1 cw11_2_2 fw11_2_2 cw11_2_3 fw11_2_3 cw11_2_4 fw11_2_4 cw11_2_5 fw11_2_5
  go_wp2_with fail
  refine Hd.wp_region_tail 18 (by kernel_rfl) (by kernel_rfl) ?_
  intro KQ hKQ
  repeat (first | (refine Hd.wpG_skip (by decide) rfl ?_; simp only [Act.put, List.setIfInBounds_toArray, List.set_cons_zero, List.set_cons_succ]) | (refine Hd.wpG_want (by decide) rfl ?_; apply Exists.intro; refine ⟨?_, ?_⟩; (· intro wx gx; (obtain ⟨mx, rfl⟩ := gx); all_goals (apply Hd.gAt_of_quiet; intro K hK; go_big_quiet_op; first | exact hK _ rfl | (apply Exists.intro; refine ⟨fun _ => ?_, ?_⟩; (· fail); exact hK _ rfl))); try simp only [Act.put, List.setIfInBounds_toArray, List.set_cons_zero, List.set_cons_succ]))
  refine Hd.wpG_nil (hKQ _ ?_)
  clear hKQ KQ
  intro w13 hhw13
  have hw13 := Hd.gr_of_spread hhw13
  have cw13_0_0 := cu hw13 A 0 a0 (by go_simp)
  have cw13_0_1 := cu hw13 A 1 a1 (by go_simp)
  have cw13_0_2 := cu hw13 A 2 a2 (by go_simp)
  have cw13_0_3 := cu hw13 A 3 a3 (by go_simp)
  have cw13_1_0 := cu hw13 B 0 b0 (by go_simp)
  have cw13_1_1 := cu hw13 B 1 b1 (by go_simp)
  have cw13_2_0 := cu hw13 (w.heap.size) 0 o00 (by go_simp)
  have fw13_2_0 := fq hw13 (w.heap.size) 0 (.int .u64 o00) (by go_simp) (by go_simp)
  have cw13_2_1 := cu hw13 (w.heap.size) 1 o10 (by go_simp)
  have fw13_2_1 := fq hw13 (w.heap.size) 1 (.int .u64 o10) (by go_simp) (by go_simp)
  have cw13_2_2 := cu hw13 (w.heap.size) 2 o20 (by go_simp)
  have fw13_2_2 := fq hw13 (w.heap.size) 2 (.int .u64 o20) (by go_simp) (by go_simp)
  have cw13_2_3 := cu hw13 (w.heap.size) 3 c11 (by go_simp)
  have fw13_2_3 := fq hw13 (w.heap.size) 3 (.int .u64 c11) (by go_simp) (by go_simp)
  have cw13_2_4 := cu hw13 (w.heap.size) 4 0 (by go_simp)
  have fw13_2_4 := fq hw13 (w.heap.size) 4 (.int .u64 0) (by go_simp) (by go_simp)
  have cw13_2_5 := cu hw13 (w.heap.size) 5 0 (by go_simp)
  have fw13_2_5 := fq hw13 (w.heap.size) 5 (.int .u64 0) (by go_simp) (by go_simp)
  have gw13 : Gr w w13 := Gr.trans (by have gg := gw12; have gs := gg.size; go_grown) hw13
  clear hw13 hhw13 gw12 zw12_0 cw12_0_0 cw12_0_1 cw12_0_2 cw12_0_3 zw12_1 cw12_1_0 cw12_1_1 zw12_2 cw12_2_0 fw12_2_0 cw12_2_1 fw12_2_1 cw12_2_2 fw12_2_2 cw12_2_3 fw12_2_3 cw12_2_4 fw12_2_4 cw12_2_5 fw12_2_5
  go_wp2_with fail
  rw [rounds_succ]
  go_wp2_with fail
  generalize hhw14 : (w13.setCell ⟨w.heap.size, 3, none⟩ (.int .u64 o21)) = w14
  have cw14_0_0 : w14.cell? ⟨A, 0, none⟩ = some (.int .u64 a0) := by subst hhw14; go_simp
  have cw14_0_1 : w14.cell? ⟨A, 1, none⟩ = some (.int .u64 a1) := by subst hhw14; go_simp
  have cw14_0_2 : w14.cell? ⟨A, 2, none⟩ = some (.int .u64 a2) := by subst hhw14; go_simp
  have cw14_0_3 : w14.cell? ⟨A, 3, none⟩ = some (.int .u64 a3) := by subst hhw14; go_simp
  have zw14_0 := zb cw14_0_0
  have cw14_1_0 : w14.cell? ⟨B, 0, none⟩ = some (.int .u64 b0) := by subst hhw14; go_simp
  have cw14_1_1 : w14.cell? ⟨B, 1, none⟩ = some (.int .u64 b1) := by subst hhw14; go_simp
  have zw14_1 := zb cw14_1_0
  have cw14_2_0 : w14.cell? ⟨w.heap.size, 0, none⟩ = some (.int .u64 o00) := by subst hhw14; go_simp
  have fw14_2_0 : w14.frozen? ⟨w.heap.size, 0, none⟩ = false := by subst hhw14; go_simp
  have cw14_2_1 : w14.cell? ⟨w.heap.size, 1, none⟩ = some (.int .u64 o10) := by subst hhw14; go_simp
  have fw14_2_1 : w14.frozen? ⟨w.heap.size, 1, none⟩ = false := by subst hhw14; go_simp
  have cw14_2_2 : w14.cell? ⟨w.heap.size, 2, none⟩ = some (.int .u64 o20) := by subst hhw14; go_simp
  have fw14_2_2 : w14.frozen? ⟨w.heap.size, 2, none⟩ = false := by subst hhw14; go_simp
  have cw14_2_3 : w14.cell? ⟨w.heap.size, 3, none⟩ = some (.int .u64 o21) := by subst hhw14; go_simp
  have fw14_2_3 : w14.frozen? ⟨w.heap.size, 3, none⟩ = false := by subst hhw14; go_simp
  have cw14_2_4 : w14.cell? ⟨w.heap.size, 4, none⟩ = some (.int .u64 0) := by subst hhw14; go_simp
  have fw14_2_4 : w14.frozen? ⟨w.heap.size, 4, none⟩ = false := by subst hhw14; go_simp
  have cw14_2_5 : w14.cell? ⟨w.heap.size, 5, none⟩ = some (.int .u64 0) := by subst hhw14; go_simp
  have fw14_2_5 : w14.frozen? ⟨w.heap.size, 5, none⟩ = false := by subst hhw14; go_simp
  have zw14_2 := zb cw14_2_0
  have gw14 : Gr w w14 := by subst hhw14; have gg := gw13; have gs := gg.size; go_grown
  clear hhw14 gw13 cw13_0_0 cw13_0_1 cw13_0_2 cw13_0_3 cw13_1_0 cw13_1_1 cw13_2_0 fw13_2_0 cw13_2_1 fw13_2_1 cw13_2_2 fw13_2_2 cw13_2_3 fw13_2_3 cw13_2_4 fw13_2_4 cw13_2_5 fw13_2_5
  go_wp2_with fail
  rw [rounds_succ]
  go_wp2_with fail
  generalize hhw15 : (w14.setCell ⟨w.heap.size, 4, none⟩ (.int .u64 c21)) = w15
  have cw15_0_0 : w15.cell? ⟨A, 0, none⟩ = some (.int .u64 a0) := by subst hhw15; go_simp
  have cw15_0_1 : w15.cell? ⟨A, 1, none⟩ = some (.int .u64 a1) := by subst hhw15; go_simp
  have cw15_0_2 : w15.cell? ⟨A, 2, none⟩ = some (.int .u64 a2) := by subst hhw15; go_simp
  have cw15_0_3 : w15.cell? ⟨A, 3, none⟩ = some (.int .u64 a3) := by subst hhw15; go_simp
  have zw15_0 := zb cw15_0_0
  have cw15_1_0 : w15.cell? ⟨B, 0, none⟩ = some (.int .u64 b0) := by subst hhw15; go_simp
  have cw15_1_1 : w15.cell? ⟨B, 1, none⟩ = some (.int .u64 b1) := by subst hhw15; go_simp
  have zw15_1 := zb cw15_1_0
  have cw15_2_0 : w15.cell? ⟨w.heap.size, 0, none⟩ = some (.int .u64 o00) := by subst hhw15; go_simp
  have fw15_2_0 : w15.frozen? ⟨w.heap.size, 0, none⟩ = false := by subst hhw15; go_simp
  have cw15_2_1 : w15.cell? ⟨w.heap.size, 1, none⟩ = some (.int .u64 o10) := by subst hhw15; go_simp
  have fw15_2_1 : w15.frozen? ⟨w.heap.size, 1, none⟩ = false := by subst hhw15; go_simp
  have cw15_2_2 : w15.cell? ⟨w.heap.size, 2, none⟩ = some (.int .u64 o20) := by subst hhw15; go_simp
  have fw15_2_2 : w15.frozen? ⟨w.heap.size, 2, none⟩ = false := by subst hhw15; go_simp
  have cw15_2_3 : w15.cell? ⟨w.heap.size, 3, none⟩ = some (.int .u64 o21) := by subst hhw15; go_simp
  have fw15_2_3 : w15.frozen? ⟨w.heap.size, 3, none⟩ = false := by subst hhw15; go_simp
  have cw15_2_4 : w15.cell? ⟨w.heap.size, 4, none⟩ = some (.int .u64 c21) := by subst hhw15; go_simp
  have fw15_2_4 : w15.frozen? ⟨w.heap.size, 4, none⟩ = false := by subst hhw15; go_simp
  have cw15_2_5 : w15.cell? ⟨w.heap.size, 5, none⟩ = some (.int .u64 0) := by subst hhw15; go_simp
  have fw15_2_5 : w15.frozen? ⟨w.heap.size, 5, none⟩ = false := by subst hhw15; go_simp
  have zw15_2 := zb cw15_2_0
  have gw15 : Gr w w15 := by subst hhw15; have gg := gw14; have gs := gg.size; go_grown
  clear hhw15 gw14 zw14_0 cw14_0_0 cw14_0_1 cw14_0_2 cw14_0_3 zw14_1 cw14_1_0 cw14_1_1 zw14_2 cw14_2_0 fw14_2_0 cw14_2_1 fw14_2_1 cw14_2_2 fw14_2_2 cw14_2_3 fw14_2_3 cw14_2_4 fw14_2_4 cw14_2_5 fw14_2_5
  refine wp_loop_rounds 3 ?_
  rw [rounds_succ]
  go_wp2_with fail
  refine Hd.wp_region_tail 18 (by kernel_rfl) (by kernel_rfl) ?_
  intro KQ hKQ
  repeat (first | (refine Hd.wpG_skip (by decide) rfl ?_; simp only [Act.put, List.setIfInBounds_toArray, List.set_cons_zero, List.set_cons_succ]) | (refine Hd.wpG_want (by decide) rfl ?_; apply Exists.intro; refine ⟨?_, ?_⟩; (· intro wx gx; (obtain ⟨mx, rfl⟩ := gx); all_goals (apply Hd.gAt_of_quiet; intro K hK; go_big_quiet_op; first | exact hK _ rfl | (apply Exists.intro; refine ⟨fun _ => ?_, ?_⟩; (· fail); exact hK _ rfl))); try simp only [Act.put, List.setIfInBounds_toArray, List.set_cons_zero, List.set_cons_succ]))
  refine Hd.wpG_nil (hKQ _ ?_)
  clear hKQ KQ
  intro w16 hhw16
  have hw16 := Hd.gr_of_spread hhw16
  have cw16_0_0 := cu hw16 A 0 a0 (by go_simp)
  have cw16_0_1 := cu hw16 A 1 a1 (by go_simp)
  have cw16_0_2 := cu hw16 A 2 a2 (by go_simp)
  have cw16_0_3 := cu hw16 A 3 a3 (by go_simp)
  have cw16_1_0 := cu hw16 B 0 b0 (by go_simp)
  have cw16_1_1 := cu hw16 B 1 b1 (by go_simp)
  have cw16_2_0 := cu hw16 (w.heap.size) 0 o00 (by go_simp)
  have fw16_2_0 := fq hw16 (w.heap.size) 0 (.int .u64 o00) (by go_simp) (by go_simp)
  have cw16_2_1 := cu hw16 (w.heap.size) 1 o10 (by go_simp)
  have fw16_2_1 := fq hw16 (w.heap.size) 1 (.int .u64 o10) (by go_simp) (by go_simp)
  have cw16_2_2 := cu hw16 (w.heap.size) 2 o20 (by go_simp)
  have fw16_2_2 := fq hw16 (w.heap.size) 2 (.int .u64 o20) (by go_simp) (by go_simp)
  have cw16_2_3 := cu hw16 (w.heap.size) 3 o21 (by go_simp)
  have fw16_2_3 := fq hw16 (w.heap.size) 3 (.int .u64 o21) (by go_simp) (by go_simp)
  have cw16_2_4 := cu hw16 (w.heap.size) 4 c21 (by go_simp)
  have fw16_2_4 := fq hw16 (w.heap.size) 4 (.int .u64 c21) (by go_simp) (by go_simp)
  have cw16_2_5 := cu hw16 (w.heap.size) 5 0 (by go_simp)
  have fw16_2_5 := fq hw16 (w.heap.size) 5 (.int .u64 0) (by go_simp) (by go_simp)
  have gw16 : Gr w w16 := Gr.trans (by have gg := gw15; have gs := gg.size; go_grown) hw16
  clear hw16 hhw16 gw15 zw15_0 cw15_0_0 cw15_0_1 cw15_0_2 cw15_0_3 zw15_1 cw15_1_0 cw15_1_1 zw15_2 cw15_2_0 fw15_2_0 cw15_2_1 fw15_2_1 cw15_2_2 fw15_2_2 cw15_2_3 fw15_2_3 cw15_2_4 fw15_2_4 cw15_2_5 fw15_2_5
  go_wp2_with fail
  rw [rounds_succ]
  go_wp2_with fail
  generalize hhw17 : (w16.setCell ⟨w.heap.size, 3, none⟩ (.int .u64 o30)) = w17
  have cw17_0_0 : w17.cell? ⟨A, 0, none⟩ = some (.int .u64 a0) := by subst hhw17; go_simp
  have cw17_0_1 : w17.cell? ⟨A, 1, none⟩ = some (.int .u64 a1) := by subst hhw17; go_simp
  have cw17_0_2 : w17.cell? ⟨A, 2, none⟩ = some (.int .u64 a2) := by subst hhw17; go_simp
  have cw17_0_3 : w17.cell? ⟨A, 3, none⟩ = some (.int .u64 a3) := by subst hhw17; go_simp
  have zw17_0 := zb cw17_0_0
  have cw17_1_0 : w17.cell? ⟨B, 0, none⟩ = some (.int .u64 b0) := by subst hhw17; go_simp
  have cw17_1_1 : w17.cell? ⟨B, 1, none⟩ = some (.int .u64 b1) := by subst hhw17; go_simp
  have zw17_1 := zb cw17_1_0
  have cw17_2_0 : w17.cell? ⟨w.heap.size, 0, none⟩ = some (.int .u64 o00) := by subst hhw17; go_simp
  have fw17_2_0 : w17.frozen? ⟨w.heap.size, 0, none⟩ = false := by subst hhw17; go_simp
  have cw17_2_1 : w17.cell? ⟨w.heap.size, 1, none⟩ = some (.int .u64 o10) := by subst hhw17; go_simp
  have fw17_2_1 : w17.frozen? ⟨w.heap.size, 1, none⟩ = false := by subst hhw17; go_simp
  have cw17_2_2 : w17.cell? ⟨w.heap.size, 2, none⟩ = some (.int .u64 o20) := by subst hhw17; go_simp
  have fw17_2_2 : w17.frozen? ⟨w.heap.size, 2, none⟩ = false := by subst hhw17; go_simp
  have cw17_2_3 : w17.cell? ⟨w.heap.size, 3, none⟩ = some (.int .u64 o30) := by subst hhw17; go_simp
  have fw17_2_3 : w17.frozen? ⟨w.heap.size, 3, none⟩ = false := by subst hhw17; go_simp
  have cw17_2_4 : w17.cell? ⟨w.heap.size, 4, none⟩ = some (.int .u64 c21) := by subst hhw17; go_simp
  have fw17_2_4 : w17.frozen? ⟨w.heap.size, 4, none⟩ = false := by subst hhw17; go_simp
  have cw17_2_5 : w17.cell? ⟨w.heap.size, 5, none⟩ = some (.int .u64 0) := by subst hhw17; go_simp
  have fw17_2_5 : w17.frozen? ⟨w.heap.size, 5, none⟩ = false := by subst hhw17; go_simp
  have zw17_2 := zb cw17_2_0
  have gw17 : Gr w w17 := by subst hhw17; have gg := gw16; have gs := gg.size; go_grown
  clear hhw17 gw16 cw16_0_0 cw16_0_1 cw16_0_2 cw16_0_3 cw16_1_0 cw16_1_1 cw16_2_0 fw16_2_0 cw16_2_1 fw16_2_1 cw16_2_2 fw16_2_2 cw16_2_3 fw16_2_3 cw16_2_4 fw16_2_4 cw16_2_5 fw16_2_5
  go_wp2_with fail
  refine Hd.wp_region_tail 18 (by kernel_rfl) (by kernel_rfl) ?_
  intro KQ hKQ
  repeat (first | (refine Hd.wpG_skip (by decide) rfl ?_; simp only [Act.put, List.setIfInBounds_toArray, List.set_cons_zero, List.set_cons_succ]) | (refine Hd.wpG_want (by decide) rfl ?_; apply Exists.intro; refine ⟨?_, ?_⟩; (· intro wx gx; (obtain ⟨mx, rfl⟩ := gx); all_goals (apply Hd.gAt_of_quiet; intro K hK; go_big_quiet_op; first | exact hK _ rfl | (apply Exists.intro; refine ⟨fun _ => ?_, ?_⟩; (· fail); exact hK _ rfl))); try simp only [Act.put, List.setIfInBounds_toArray, List.set_cons_zero, List.set_cons_succ]))
  refine Hd.wpG_nil (hKQ _ ?_)
  clear hKQ KQ
  intro w18 hhw18
  have hw18 := Hd.gr_of_spread hhw18
  have cw18_0_0 := cu hw18 A 0 a0 (by go_simp)
  have cw18_0_1 := cu hw18 A 1 a1 (by go_simp)
  have cw18_0_2 := cu hw18 A 2 a2 (by go_simp)
  have cw18_0_3 := cu hw18 A 3 a3 (by go_simp)
  have cw18_1_0 := cu hw18 B 0 b0 (by go_simp)
  have cw18_1_1 := cu hw18 B 1 b1 (by go_simp)
  have cw18_2_0 := cu hw18 (w.heap.size) 0 o00 (by go_simp)
  have fw18_2_0 := fq hw18 (w.heap.size) 0 (.int .u64 o00) (by go_simp) (by go_simp)
  have cw18_2_1 := cu hw18 (w.heap.size) 1 o10 (by go_simp)
  have fw18_2_1 := fq hw18 (w.heap.size) 1 (.int .u64 o10) (by go_simp) (by go_simp)
  have cw18_2_2 := cu hw18 (w.heap.size) 2 o20 (by go_simp)
  have fw18_2_2 := fq hw18 (w.heap.size) 2 (.int .u64 o20) (by go_simp) (by go_simp)
  have cw18_2_3 := cu hw18 (w.heap.size) 3 o30 (by go_simp)
  have fw18_2_3 := fq hw18 (w.heap.size) 3 (.int .u64 o30) (by go_simp) (by go_simp)
  have cw18_2_4 := cu hw18 (w.heap.size) 4 c21 (by go_simp)
  have fw18_2_4 := fq hw18 (w.heap.size) 4 (.int .u64 c21) (by go_simp) (by go_simp)
  have cw18_2_5 := cu hw18 (w.heap.size) 5 0 (by go_simp)
  have fw18_2_5 := fq hw18 (w.heap.size) 5 (.int .u64 0) (by go_simp) (by go_simp)
  have gw18 : Gr w w18 := Gr.trans (by have gg := gw17; have gs := gg.size; go_grown) hw18
  clear hw18 hhw18 gw17 zw17_0 cw17_0_0 cw17_0_1 cw17_0_2 cw17_0_3 zw17_1 cw17_1_0 cw17_1_1 zw17_2 cw17_2_0 fw17_2_0 cw17_2_1 fw17_2_1 cw17_2_2 fw17_2_2 cw17_2_3 fw17_2_3 cw17_2_4 fw17_2_4 cw17_2_5 fw17_2_5
  go_wp2_with fail
  rw [rounds_succ]
  go_wp2_with fail
  generalize hhw19 : (w18.setCell ⟨w.heap.size, 4, none⟩ (.int .u64 o31)) = w19
  have cw19_0_0 : w19.cell? ⟨A, 0, none⟩ = some (.int .u64 a0) := by subst hhw19; go_simp
  have cw19_0_1 : w19.cell? ⟨A, 1, none⟩ = some (.int .u64 a1) := by subst hhw19; go_simp
  have cw19_0_2 : w19.cell? ⟨A, 2, none⟩ = some (.int .u64 a2) := by subst hhw19; go_simp
  have cw19_0_3 : w19.cell? ⟨A, 3, none⟩ = some (.int .u64 a3) := by subst hhw19; go_simp
  have zw19_0 := zb cw19_0_0
  have cw19_1_0 : w19.cell? ⟨B, 0, none⟩ = some (.int .u64 b0) := by subst hhw19; go_simp
  have cw19_1_1 : w19.cell? ⟨B, 1, none⟩ = some (.int .u64 b1) := by subst hhw19; go_simp
  have zw19_1 := zb cw19_1_0
  have cw19_2_0 : w19.cell? ⟨w.heap.size, 0, none⟩ = some (.int .u64 o00) := by subst hhw19; go_simp
  have fw19_2_0 : w19.frozen? ⟨w.heap.size, 0, none⟩ = false := by subst hhw19; go_simp
  have cw19_2_1 : w19.cell? ⟨w.heap.size, 1, none⟩ = some (.int .u64 o10) := by subst hhw19; go_simp
  have fw19_2_1 : w19.frozen? ⟨w.heap.size, 1, none⟩ = false := by subst hhw19; go_simp
  have cw19_2_2 : w19.cell? ⟨w.heap.size, 2, none⟩ = some (.int .u64 o20) := by subst hhw19; go_simp
  have fw19_2_2 : w19.frozen? ⟨w.heap.size, 2, none⟩ = false := by subst hhw19; go_simp
  have cw19_2_3 : w19.cell? ⟨w.heap.size, 3, none⟩ = some (.int .u64 o30) := by subst hhw19; go_simp
  have fw19_2_3 : w19.frozen? ⟨w.heap.size, 3, none⟩ = false := by subst hhw19; go_simp
  have cw19_2_4 : w19.cell? ⟨w.heap.size, 4, none⟩ = some (.int .u64 o31) := by subst hhw19; go_simp
  have fw19_2_4 : w19.frozen? ⟨w.heap.size, 4, none⟩ = false := by subst hhw19; go_simp
  have cw19_2_5 : w19.cell? ⟨w.heap.size, 5, none⟩ = some (.int .u64 0) := by subst hhw19; go_simp
  have fw19_2_5 : w19.frozen? ⟨w.heap.size, 5, none⟩ = false := by subst hhw19; go_simp
  have zw19_2 := zb cw19_2_0
  have gw19 : Gr w w19 := by subst hhw19; have gg := gw18; have gs := gg.size; go_grown
  clear hhw19 gw18 cw18_0_0 cw18_0_1 cw18_0_2 cw18_0_3 cw18_1_0 cw18_1_1 cw18_2_0 fw18_2_0 cw18_2_1 fw18_2_1 cw18_2_2 fw18_2_2 cw18_2_3 fw18_2_3 cw18_2_4 fw18_2_4 cw18_2_5 fw18_2_5
  go_wp2_with fail
  rw [rounds_succ]
  go_wp2_with fail
  generalize hhw20 : (w19.setCell ⟨w.heap.size, 5, none⟩ (.int .u64 c31)) = w20
  have cw20_0_0 : w20.cell? ⟨A, 0, none⟩ = some (.int .u64 a0) := by subst hhw20; go_simp
  have cw20_0_1 : w20.cell? ⟨A, 1, none⟩ = some (.int .u64 a1) := by subst hhw20; go_simp
  have cw20_0_2 : w20.cell? ⟨A, 2, none⟩ = some (.int .u64 a2) := by subst hhw20; go_simp
  have cw20_0_3 : w20.cell? ⟨A, 3, none⟩ = some (.int .u64 a3) := by subst hhw20; go_simp
  have zw20_0 := zb cw20_0_0
  have cw20_1_0 : w20.cell? ⟨B, 0, none⟩ = some (.int .u64 b0) := by subst hhw20; go_simp
  have cw20_1_1 : w20.cell? ⟨B, 1, none⟩ = some (.int .u64 b1) := by subst hhw20; go_simp
  have zw20_1 := zb cw20_1_0
  have cw20_2_0 : w20.cell? ⟨w.heap.size, 0, none⟩ = some (.int .u64 o00) := by subst hhw20; go_simp
  have fw20_2_0 : w20.frozen? ⟨w.heap.size, 0, none⟩ = false := by subst hhw20; go_simp
  have cw20_2_1 : w20.cell? ⟨w.heap.size, 1, none⟩ = some (.int .u64 o10) := by subst hhw20; go_simp
  have fw20_2_1 : w20.frozen? ⟨w.heap.size, 1, none⟩ = false := by subst hhw20; go_simp
  have cw20_2_2 : w20.cell? ⟨w.heap.size, 2, none⟩ = some (.int .u64 o20) := by subst hhw20; go_simp
  have fw20_2_2 : w20.frozen? ⟨w.heap.size, 2, none⟩ = false := by subst hhw20; go_simp
  have cw20_2_3 : w20.cell? ⟨w.heap.size, 3, none⟩ = some (.int .u64 o30) := by subst hhw20; go_simp
  have fw20_2_3 : w20.frozen? ⟨w.heap.size, 3, none⟩ = false := by subst hhw20; go_simp
  have cw20_2_4 : w20.cell? ⟨w.heap.size, 4, none⟩ = some (.int .u64 o31) := by subst hhw20; go_simp
  have fw20_2_4 : w20.frozen? ⟨w.heap.size, 4, none⟩ = false := by subst hhw20; go_simp
  have cw20_2_5 : w20.cell? ⟨w.heap.size, 5, none⟩ = some (.int .u64 c31) := by subst hhw20; go_simp
  have fw20_2_5 : w20.frozen? ⟨w.heap.size, 5, none⟩ = false := by subst hhw20; go_simp
  have zw20_2 := zb cw20_2_0
  have gw20 : Gr w w20 := by subst hhw20; have gg := gw19; have gs := gg.size; go_grown
  clear hhw20 gw19 zw19_0 cw19_0_0 cw19_0_1 cw19_0_2 cw19_0_3 zw19_1 cw19_1_0 cw19_1_1 zw19_2 cw19_2_0 fw19_2_0 cw19_2_1 fw19_2_1 cw19_2_2 fw19_2_2 cw19_2_3 fw19_2_3 cw19_2_4 fw19_2_4 cw19_2_5 fw19_2_5
  go_wp2_with fail
  go_ret
  exact ⟨w.heap.size, rfl, by go_simp, by go_simp, by go_simp, by go_simp, by go_simp, by go_simp, gw20⟩
end Go.Proofs.YtfobmlgpjhghdaaGreatDoor
namespace Go.Proofs.YtfobmlgpjhghdaaGreatDoor
set_option linter.unusedVariables false
open Go.ChangeShapes Go.WideShapes Go.ChangeAt Go.RowKit
theorem c_times42 (a0 a1 a2 a3 b0 b1 : Nat) (h0 : Hw a0) (h1 : Hw a1) (h2 : Hw a2) (h3 : Hw a3) (g0 : Hw b0) (g1 : Hw b1) : ∃ z0 z1 z2 z3 z4 z5 : Nat, Hw z0 ∧ Hw z1 ∧ Hw z2 ∧ Hw z3 ∧ Hw z4 ∧ Hw z5 ∧
    (a0 + a1 * 4294967296 + (a2 + a3 * 4294967296) * 18446744073709551616) * (b0 + b1 * 4294967296) = (z0 + z1 * 4294967296) + (z2 + z3 * 4294967296) * 18446744073709551616 + (z4 + z5 * 4294967296) * 340282366920938463463374607431768211456 ∧
    ∀ (A B ca cb : Nat) (w : World), A < w.heap.size → B < w.heap.size → w.cell? ⟨A, 0, none⟩ = some (.int .u64 a0) → w.cell? ⟨A, 1, none⟩ = some (.int .u64 a1) → w.cell? ⟨A, 2, none⟩ = some (.int .u64 a2) → w.cell? ⟨A, 3, none⟩ = some (.int .u64 a3) → w.cell? ⟨B, 0, none⟩ = some (.int .u64 b0) → w.cell? ⟨B, 1, none⟩ = some (.int .u64 b1) →
    Calls Tryz.prog 128 #[.slice (some ⟨A, 0, none⟩) 4 ca, .slice (some ⟨B, 0, none⟩) 2 cb] w fun e w' => ∃ O, e = .returned (.slice (some ⟨O, 0, none⟩) 6 6) ∧ w'.cell? ⟨O, 0, none⟩ = some (.int .u64 z0) ∧ w'.cell? ⟨O, 1, none⟩ = some (.int .u64 z1) ∧ w'.cell? ⟨O, 2, none⟩ = some (.int .u64 z2) ∧ w'.cell? ⟨O, 3, none⟩ = some (.int .u64 z3) ∧ w'.cell? ⟨O, 4, none⟩ = some (.int .u64 z4) ∧ w'.cell? ⟨O, 5, none⟩ = some (.int .u64 z5) ∧ Gr w w' := by
  have q00 := hw_mul h0 g0
  obtain ⟨p00, e00⟩ : ∃ p, p = a0 * b0 := ⟨_, rfl⟩
  have q01 := hw_mul h0 g1
  obtain ⟨p01, e01⟩ : ∃ p, p = a0 * b1 := ⟨_, rfl⟩
  have q10 := hw_mul h1 g0
  obtain ⟨p10, e10⟩ : ∃ p, p = a1 * b0 := ⟨_, rfl⟩
  have q11 := hw_mul h1 g1
  obtain ⟨p11, e11⟩ : ∃ p, p = a1 * b1 := ⟨_, rfl⟩
  have q20 := hw_mul h2 g0
  obtain ⟨p20, e20⟩ : ∃ p, p = a2 * b0 := ⟨_, rfl⟩
  have q21 := hw_mul h2 g1
  obtain ⟨p21, e21⟩ : ∃ p, p = a2 * b1 := ⟨_, rfl⟩
  have q30 := hw_mul h3 g0
  obtain ⟨p30, e30⟩ : ∃ p, p = a3 * b0 := ⟨_, rfl⟩
  have q31 := hw_mul h3 g1
  obtain ⟨p31, e31⟩ : ∃ p, p = a3 * b1 := ⟨_, rfl⟩
  have eP : (a0 + a1 * 4294967296 + (a2 + a3 * 4294967296) * 18446744073709551616) * (b0 + b1 * 4294967296) = p00 + (p01 + p10) * 4294967296 + (p11 + p20) * 18446744073709551616 + (p21 + p30) * 79228162514264337593543950336 + p31 * 340282366920938463463374607431768211456 := by
    rw [e00, e01, e10, e11, e20, e21, e30, e31]; grind
  rw [eP]
  have m00 : IntKind.u64.wrap ((a0 : Int) * (b0 : Int)) = (p00 : Int) := by rw [← Int.natCast_mul, ← e00]; exact IntWalk.u64_in _ (by omega)
  rw [← e00] at q00
  have m01 : IntKind.u64.wrap ((a0 : Int) * (b1 : Int)) = (p01 : Int) := by rw [← Int.natCast_mul, ← e01]; exact IntWalk.u64_in _ (by omega)
  rw [← e01] at q01
  have m10 : IntKind.u64.wrap ((a1 : Int) * (b0 : Int)) = (p10 : Int) := by rw [← Int.natCast_mul, ← e10]; exact IntWalk.u64_in _ (by omega)
  rw [← e10] at q10
  have m11 : IntKind.u64.wrap ((a1 : Int) * (b1 : Int)) = (p11 : Int) := by rw [← Int.natCast_mul, ← e11]; exact IntWalk.u64_in _ (by omega)
  rw [← e11] at q11
  have m20 : IntKind.u64.wrap ((a2 : Int) * (b0 : Int)) = (p20 : Int) := by rw [← Int.natCast_mul, ← e20]; exact IntWalk.u64_in _ (by omega)
  rw [← e20] at q20
  have m21 : IntKind.u64.wrap ((a2 : Int) * (b1 : Int)) = (p21 : Int) := by rw [← Int.natCast_mul, ← e21]; exact IntWalk.u64_in _ (by omega)
  rw [← e21] at q21
  have m30 : IntKind.u64.wrap ((a3 : Int) * (b0 : Int)) = (p30 : Int) := by rw [← Int.natCast_mul, ← e30]; exact IntWalk.u64_in _ (by omega)
  rw [← e30] at q30
  have m31 : IntKind.u64.wrap ((a3 : Int) * (b1 : Int)) = (p31 : Int) := by rw [← Int.natCast_mul, ← e31]; exact IntWalk.u64_in _ (by omega)
  rw [← e31] at q31
  clear eP e00 e01 e10 e11 e20 e21 e30 e31 h0 h1 h2 h3 g0 g1
  obtain ⟨o00, do00⟩ : ∃ x, x = p00 % 4294967296 := ⟨_, rfl⟩
  obtain ⟨c00, dc00⟩ : ∃ x, x = p00 / 4294967296 := ⟨_, rfl⟩
  obtain ⟨v01, dv01⟩ : ∃ x, x = p01 + c00 := ⟨_, rfl⟩
  obtain ⟨o01, do01⟩ : ∃ x, x = v01 % 4294967296 := ⟨_, rfl⟩
  obtain ⟨c01, dc01⟩ : ∃ x, x = v01 / 4294967296 := ⟨_, rfl⟩
  obtain ⟨t10, dt10⟩ : ∃ x, x = p10 + o01 := ⟨_, rfl⟩
  obtain ⟨o10, do10⟩ : ∃ x, x = t10 % 4294967296 := ⟨_, rfl⟩
  obtain ⟨c10, dc10⟩ : ∃ x, x = t10 / 4294967296 := ⟨_, rfl⟩
  obtain ⟨t11, dt11⟩ : ∃ x, x = p11 + c01 := ⟨_, rfl⟩
  obtain ⟨v11, dv11⟩ : ∃ x, x = t11 + c10 := ⟨_, rfl⟩
  obtain ⟨o11, do11⟩ : ∃ x, x = v11 % 4294967296 := ⟨_, rfl⟩
  obtain ⟨c11, dc11⟩ : ∃ x, x = v11 / 4294967296 := ⟨_, rfl⟩
  obtain ⟨t20, dt20⟩ : ∃ x, x = p20 + o11 := ⟨_, rfl⟩
  obtain ⟨o20, do20⟩ : ∃ x, x = t20 % 4294967296 := ⟨_, rfl⟩
  obtain ⟨c20, dc20⟩ : ∃ x, x = t20 / 4294967296 := ⟨_, rfl⟩
  obtain ⟨t21, dt21⟩ : ∃ x, x = p21 + c11 := ⟨_, rfl⟩
  obtain ⟨v21, dv21⟩ : ∃ x, x = t21 + c20 := ⟨_, rfl⟩
  obtain ⟨o21, do21⟩ : ∃ x, x = v21 % 4294967296 := ⟨_, rfl⟩
  obtain ⟨c21, dc21⟩ : ∃ x, x = v21 / 4294967296 := ⟨_, rfl⟩
  obtain ⟨t30, dt30⟩ : ∃ x, x = p30 + o21 := ⟨_, rfl⟩
  obtain ⟨o30, do30⟩ : ∃ x, x = t30 % 4294967296 := ⟨_, rfl⟩
  obtain ⟨c30, dc30⟩ : ∃ x, x = t30 / 4294967296 := ⟨_, rfl⟩
  obtain ⟨t31, dt31⟩ : ∃ x, x = p31 + c21 := ⟨_, rfl⟩
  obtain ⟨v31, dv31⟩ : ∃ x, x = t31 + c30 := ⟨_, rfl⟩
  obtain ⟨o31, do31⟩ : ∃ x, x = v31 % 4294967296 := ⟨_, rfl⟩
  obtain ⟨c31, dc31⟩ : ∃ x, x = v31 / 4294967296 := ⟨_, rfl⟩
  have bo00 : o00 < 4294967296 := by omega
  have bv00 : p00 < 18446744073709551616 := by omega
  have bc00 : c00 < 4294967296 := by omega
  have bo01 : o01 < 4294967296 := by omega
  have bv01 : v01 < 18446744073709551616 := by omega
  have bc01 : c01 < 4294967296 := by omega
  have bo10 : o10 < 4294967296 := by omega
  have bv10 : t10 < 18446744073709551616 := by omega
  have bc10 : c10 < 4294967296 := by omega
  have bt10 : t10 < 18446744073709551616 := by omega
  have bo11 : o11 < 4294967296 := by omega
  have bv11 : v11 < 18446744073709551616 := by omega
  have bc11 : c11 < 4294967296 := by omega
  have bt11 : t11 < 18446744073709551616 := by omega
  have bo20 : o20 < 4294967296 := by omega
  have bv20 : t20 < 18446744073709551616 := by omega
  have bc20 : c20 < 4294967296 := by omega
  have bt20 : t20 < 18446744073709551616 := by omega
  have bo21 : o21 < 4294967296 := by omega
  have bv21 : v21 < 18446744073709551616 := by omega
  have bc21 : c21 < 4294967296 := by omega
  have bt21 : t21 < 18446744073709551616 := by omega
  have bo30 : o30 < 4294967296 := by omega
  have bv30 : t30 < 18446744073709551616 := by omega
  have bc30 : c30 < 4294967296 := by omega
  have bt30 : t30 < 18446744073709551616 := by omega
  have bo31 : o31 < 4294967296 := by omega
  have bv31 : v31 < 18446744073709551616 := by omega
  have bc31 : c31 < 4294967296 := by omega
  have bt31 : t31 < 18446744073709551616 := by omega
  refine ⟨o00, o10, o20, o30, o31, c31, by unfold Hw; omega, by unfold Hw; omega, by unfold Hw; omega, by unfold Hw; omega, by unfold Hw; omega, by unfold Hw; omega, by omega, fun A B ca cb w hA hB k0 k1 k2 k3 k4 k5 => ?_⟩
  exact times42_walk a0 a1 a2 a3 b0 b1 p00 o00 c00 p01 v01 o01 c01 p10 t10 o10 c10 p11 t11 v11 o11 c11 p20 t20 o20 c20 p21 t21 v21 o21 c21 p30 t30 o30 c30 p31 t31 v31 o31 c31 A B ca cb w hA hB k0 k1 k2 k3 k4 k5 m00 (IntWalk.u64_in _ (by omega)) (by rw [mask32 _ (by unfold Wd; omega), do00]) (by omega) m01 (IntWalk.u64_in _ (by omega)) (by rw [← Int.natCast_add, ← dv01]; exact IntWalk.u64_in _ (by omega)) (by rw [mask32 _ (by unfold Wd; omega), do01]) (by omega) m10 (by rw [← Int.natCast_add, ← dt10]; exact IntWalk.u64_in _ (by omega)) (IntWalk.u64_in _ (by omega)) (by rw [mask32 _ (by unfold Wd; omega), do10]) (by omega) m11 (by rw [← Int.natCast_add, ← dt11]; exact IntWalk.u64_in _ (by omega)) (by rw [← Int.natCast_add, ← dv11]; exact IntWalk.u64_in _ (by omega)) (by rw [mask32 _ (by unfold Wd; omega), do11]) (by omega) m20 (by rw [← Int.natCast_add, ← dt20]; exact IntWalk.u64_in _ (by omega)) (IntWalk.u64_in _ (by omega)) (by rw [mask32 _ (by unfold Wd; omega), do20]) (by omega) m21 (by rw [← Int.natCast_add, ← dt21]; exact IntWalk.u64_in _ (by omega)) (by rw [← Int.natCast_add, ← dv21]; exact IntWalk.u64_in _ (by omega)) (by rw [mask32 _ (by unfold Wd; omega), do21]) (by omega) m30 (by rw [← Int.natCast_add, ← dt30]; exact IntWalk.u64_in _ (by omega)) (IntWalk.u64_in _ (by omega)) (by rw [mask32 _ (by unfold Wd; omega), do30]) (by omega) m31 (by rw [← Int.natCast_add, ← dt31]; exact IntWalk.u64_in _ (by omega)) (by rw [← Int.natCast_add, ← dv31]; exact IntWalk.u64_in _ (by omega)) (by rw [mask32 _ (by unfold Wd; omega), do31]) (by omega)
theorem words2 (x y : Nat) (hx : Wd x) (hy : Wd y) : ∃ a0 a1 a2 a3 : Nat, Hw a0 ∧ Hw a1 ∧ Hw a2 ∧ Hw a3 ∧ x = a0 + a1 * 4294967296 ∧ y = a2 + a3 * 4294967296 ∧
    ∀ b w, b < w.heap.size → w.cell? ⟨b, 0, none⟩ = some (.int .u64 x) → w.cell? ⟨b, 1, none⟩ = some (.int .u64 y) →
    Calls Tryz.prog 129 #[.slice (some ⟨b, 0, none⟩) 2 2] w fun e w' => ∃ B cap, e = .returned (.slice (some ⟨B, 0, none⟩) 4 cap) ∧ w.heap.size ≤ B ∧ w'.cell? ⟨B, 0, none⟩ = some (.int .u64 a0) ∧ w'.cell? ⟨B, 1, none⟩ = some (.int .u64 a1) ∧ w'.cell? ⟨B, 2, none⟩ = some (.int .u64 a2) ∧ w'.cell? ⟨B, 3, none⟩ = some (.int .u64 a3) ∧ Gr w w' :=
  ⟨x % 4294967296, x / 4294967296, y % 4294967296, y / 4294967296, by unfold Hw; omega, by unfold Hw Wd at *; omega, by unfold Hw; omega, by unfold Hw Wd at *; omega, by omega, by omega, fun b w hb k0 k1 => words2_walk x y _ _ _ _ b w (mask32 x hx) (by omega) (mask32 y hy) (by omega) hb k0 k1⟩
theorem words1 (x : Nat) (hx : Wd x) : ∃ a0 a1 : Nat, Hw a0 ∧ Hw a1 ∧ x = a0 + a1 * 4294967296 ∧
    ∀ b w, b < w.heap.size → w.cell? ⟨b, 0, none⟩ = some (.int .u64 x) →
    Calls Tryz.prog 129 #[.slice (some ⟨b, 0, none⟩) 1 1] w fun e w' => ∃ B cap, e = .returned (.slice (some ⟨B, 0, none⟩) 2 cap) ∧ w.heap.size ≤ B ∧ w'.cell? ⟨B, 0, none⟩ = some (.int .u64 a0) ∧ w'.cell? ⟨B, 1, none⟩ = some (.int .u64 a1) ∧ Gr w w' :=
  ⟨x % 4294967296, x / 4294967296, by unfold Hw; omega, by unfold Hw Wd at *; omega, by omega, fun b w hb k0 => c_words1 x hx b w hb k0⟩
set_option maxHeartbeats 2000000 in
set_option maxRecDepth 100000 in
theorem rtimes_core (h l d a0 a1 a2 a3 b0 b1 z0 z1 z2 z3 z4 z5 t u v : Nat) (W : World)
    (A1 : ∀ b w, b < w.heap.size → w.cell? ⟨b, 0, none⟩ = some (.int .u64 l) → w.cell? ⟨b, 1, none⟩ = some (.int .u64 h) →
      Calls Tryz.prog 129 #[.slice (some ⟨b, 0, none⟩) 2 2] w fun e w' => ∃ B cap, e = .returned (.slice (some ⟨B, 0, none⟩) 4 cap) ∧ w.heap.size ≤ B ∧ w'.cell? ⟨B, 0, none⟩ = some (.int .u64 a0) ∧ w'.cell? ⟨B, 1, none⟩ = some (.int .u64 a1) ∧ w'.cell? ⟨B, 2, none⟩ = some (.int .u64 a2) ∧ w'.cell? ⟨B, 3, none⟩ = some (.int .u64 a3) ∧ Gr w w')
    (A2 : ∀ b w, b < w.heap.size → w.cell? ⟨b, 0, none⟩ = some (.int .u64 d) →
      Calls Tryz.prog 129 #[.slice (some ⟨b, 0, none⟩) 1 1] w fun e w' => ∃ B cap, e = .returned (.slice (some ⟨B, 0, none⟩) 2 cap) ∧ w.heap.size ≤ B ∧ w'.cell? ⟨B, 0, none⟩ = some (.int .u64 b0) ∧ w'.cell? ⟨B, 1, none⟩ = some (.int .u64 b1) ∧ Gr w w')
    (A3 : ∀ (A B ca cb : Nat) (w : World), A < w.heap.size → B < w.heap.size → w.cell? ⟨A, 0, none⟩ = some (.int .u64 a0) → w.cell? ⟨A, 1, none⟩ = some (.int .u64 a1) → w.cell? ⟨A, 2, none⟩ = some (.int .u64 a2) → w.cell? ⟨A, 3, none⟩ = some (.int .u64 a3) → w.cell? ⟨B, 0, none⟩ = some (.int .u64 b0) → w.cell? ⟨B, 1, none⟩ = some (.int .u64 b1) →
      Calls Tryz.prog 128 #[.slice (some ⟨A, 0, none⟩) 4 ca, .slice (some ⟨B, 0, none⟩) 2 cb] w fun e w' => ∃ O, e = .returned (.slice (some ⟨O, 0, none⟩) 6 6) ∧ w'.cell? ⟨O, 0, none⟩ = some (.int .u64 z0) ∧ w'.cell? ⟨O, 1, none⟩ = some (.int .u64 z1) ∧ w'.cell? ⟨O, 2, none⟩ = some (.int .u64 z2) ∧ w'.cell? ⟨O, 3, none⟩ = some (.int .u64 z3) ∧ w'.cell? ⟨O, 4, none⟩ = some (.int .u64 z4) ∧ w'.cell? ⟨O, 5, none⟩ = some (.int .u64 z5) ∧ Gr w w')
    (A4 : ∀ O w, w.cell? ⟨O, 0, none⟩ = some (.int .u64 z0) → w.cell? ⟨O, 1, none⟩ = some (.int .u64 z1) → Calls Tryz.prog 130 #[.slice (some ⟨O, 0, none⟩) 6 6, .int .i64 0] w fun e w' => e = .returned (.int .u64 (v : Int)) ∧ Gr w w')
    (A5 : ∀ O w, w.cell? ⟨O, 2, none⟩ = some (.int .u64 z2) → w.cell? ⟨O, 3, none⟩ = some (.int .u64 z3) → Calls Tryz.prog 130 #[.slice (some ⟨O, 0, none⟩) 6 6, .int .i64 1] w fun e w' => e = .returned (.int .u64 (u : Int)) ∧ Gr w w')
    (A6 : ∀ O w, w.cell? ⟨O, 4, none⟩ = some (.int .u64 z4) → w.cell? ⟨O, 5, none⟩ = some (.int .u64 z5) → Calls Tryz.prog 130 #[.slice (some ⟨O, 0, none⟩) 6 6, .int .i64 2] w fun e w' => e = .returned (.int .u64 (t : Int)) ∧ Gr w w') :
    Calls Tryz.prog 91 #[.agg #[.int .u64 h, .int .u64 l], .int .u64 d] W fun e w' => e = .returned (.tuple #[.int .u64 t, .agg #[.int .u64 u, .int .u64 v]]) ∧ Gr W w' := by
  have H1 := Lib.hid A1
  have H2 := Lib.hid A2
  have H3 := Lib.hid A3
  have H4 := Lib.hid A4
  have H5 := Lib.hid A5
  have H6 := Lib.hid A6
  clear A1 A2 A3 A4 A5 A6
  go_enter Tryz.func91, Tryz.ntmps91
  go_wp2_with fail
  go_at_call 129
  refine (H1.out _ _ (by simp) (by go_simp) (by go_simp)).mono ?_
  rintro e w1 ⟨A, ca, rfl, hA, ka0, ka1, ka2, ka3, h1⟩
  have gw1 : Gr W w1 := Gr.trans (by go_grown) h1
  have s0 : w1.cell? ⟨W.heap.size, 0, none⟩ = some (.int .u64 h) := cell_gr h1 (by go_simp)
  have s1 : w1.cell? ⟨W.heap.size, 1, none⟩ = some (.int .u64 l) := cell_gr h1 (by go_simp)
  have r0 : w1.cell? ⟨W.heap.size + 1, 0, none⟩ = some (.int .u64 0) := cell_gr h1 (by go_simp)
  have r1 : w1.cell? ⟨W.heap.size + 1, 1, none⟩ = some (.int .u64 0) := cell_gr h1 (by go_simp)
  have f0 := fq h1 (W.heap.size + 1) 0 (.int .u64 0) (by go_simp) (by go_simp)
  have f1 := fq h1 (W.heap.size + 1) 1 (.int .u64 0) (by go_simp) (by go_simp)
  have zs := World.block_lt_of_cell? _ _ s0
  have zr := World.block_lt_of_cell? _ _ r0
  have zA := World.block_lt_of_cell? _ _ ka0
  clear h1 hA
  go_wp2_with fail
  go_at_call 129
  refine (H2.out _ _ (by simp) (by go_simp)).mono ?_
  rintro e w2 ⟨B, cb, rfl, hB, kb0, kb1, h2⟩
  have h2' : Gr w1 w2 := Gr.trans (by go_grown) h2
  have gw2 : Gr W w2 := Gr.trans gw1 h2'
  have f0' := frozen_gr h2' r0 f0
  have f1' := frozen_gr h2' r1 f1
  replace r0 := cell_gr h2' r0
  replace r1 := cell_gr h2' r1
  replace ka0 := cell_gr h2' ka0
  replace ka1 := cell_gr h2' ka1
  replace ka2 := cell_gr h2' ka2
  replace ka3 := cell_gr h2' ka3
  clear f0 f1 zr zA zs s0 s1
  have zr := World.block_lt_of_cell? _ _ r0
  have zA := World.block_lt_of_cell? _ _ ka0
  have zB := World.block_lt_of_cell? _ _ kb0
  clear h2 hB h2' gw1
  go_wp2_with fail
  go_at_call 128
  refine (H3.out _ _ _ _ _ zA zB ka0 ka1 ka2 ka3 kb0 kb1).mono ?_
  rintro e w3 ⟨O, rfl, k0, k1, k2, k3, k4, k5, h3⟩
  have f0 := frozen_gr h3 r0 f0'
  have f1 := frozen_gr h3 r1 f1'
  replace r0 := cell_gr h3 r0
  replace r1 := cell_gr h3 r1
  have gw3 : Gr W w3 := Gr.trans gw2 h3
  clear f0' f1' zr zA zB ka0 ka1 ka2 ka3 kb0 kb1 h3 gw2
  have zr := World.block_lt_of_cell? _ _ r0
  have zO := World.block_lt_of_cell? _ _ k0
  go_wp2_with fail
  go_at_call 130
  refine ((H6.out _ _ (by go_simp) (by go_simp))).mono ?_
  rintro e w4 ⟨rfl, hw4⟩
  have cw4_0_0 := cu hw4 (W.heap.size + 1) 0 0 (by go_simp)
  have fw4_0_0 := fq hw4 (W.heap.size + 1) 0 (.int .u64 0) (by go_simp) (by go_simp)
  have cw4_0_1 := cu hw4 (W.heap.size + 1) 1 0 (by go_simp)
  have fw4_0_1 := fq hw4 (W.heap.size + 1) 1 (.int .u64 0) (by go_simp) (by go_simp)
  have cw4_1_0 := cu hw4 O 0 z0 (by go_simp)
  have cw4_1_1 := cu hw4 O 1 z1 (by go_simp)
  have cw4_1_2 := cu hw4 O 2 z2 (by go_simp)
  have cw4_1_3 := cu hw4 O 3 z3 (by go_simp)
  have gw4 : Gr W w4 := Gr.trans (by have gg := gw3; have gs := gg.size; go_grown) hw4
  clear hw4 gw3
  go_wp2_with fail
  go_at_call 130
  refine ((H5.out _ _ (by go_simp) (by go_simp))).mono ?_
  rintro e w5 ⟨rfl, hw5⟩
  have cw5_0_0 := cu hw5 (W.heap.size + 1) 0 0 (by go_simp)
  have fw5_0_0 := fq hw5 (W.heap.size + 1) 0 (.int .u64 0) (by go_simp) (by go_simp)
  have cw5_0_1 := cu hw5 (W.heap.size + 1) 1 0 (by go_simp)
  have fw5_0_1 := fq hw5 (W.heap.size + 1) 1 (.int .u64 0) (by go_simp) (by go_simp)
  have cw5_1_0 := cu hw5 O 0 z0 (by go_simp)
  have cw5_1_1 := cu hw5 O 1 z1 (by go_simp)
  have gw5 : Gr W w5 := Gr.trans (by have gg := gw4; have gs := gg.size; go_grown) hw5
  clear hw5 gw4 cw4_0_0 fw4_0_0 cw4_0_1 fw4_0_1 cw4_1_0 cw4_1_1 cw4_1_2 cw4_1_3
  go_wp2_with fail
  go_at_call 130
  refine ((H4.out _ _ (by go_simp) (by go_simp))).mono ?_
  rintro e w6 ⟨rfl, hw6⟩
  have cw6_0_0 := cu hw6 (W.heap.size + 1) 0 0 (by go_simp)
  have fw6_0_0 := fq hw6 (W.heap.size + 1) 0 (.int .u64 0) (by go_simp) (by go_simp)
  have cw6_0_1 := cu hw6 (W.heap.size + 1) 1 0 (by go_simp)
  have fw6_0_1 := fq hw6 (W.heap.size + 1) 1 (.int .u64 0) (by go_simp) (by go_simp)
  have gw6 : Gr W w6 := Gr.trans (by have gg := gw5; have gs := gg.size; go_grown) hw6
  clear hw6 gw5 cw5_0_0 fw5_0_0 cw5_0_1 fw5_0_1 cw5_1_0 cw5_1_1
  go_wp2_with fail
  refine bodyPost_ret (v := .tuple #[.int .u64 t, .agg #[.int .u64 u, .int .u64 v]]) (by simp [results, Tryz.results91, go_sem, *]) rfl ⟨rfl, by have gg := gw6; have gs := gg.size; go_grown⟩
theorem c_rTimes (h l d : Nat) (h1 : Wd h) (h2 : Wd l) (h3 : Wd d) (w : World) :
    Calls Tryz.prog 91 #[.agg #[.int .u64 h, .int .u64 l], .int .u64 d] w fun e w' => e = .returned (.tuple #[.int .u64 ((val h l * d / 18446744073709551616 / 18446744073709551616 : Nat) : Int), .agg #[.int .u64 ((val h l * d / 18446744073709551616 % 18446744073709551616 : Nat) : Int), .int .u64 ((val h l * d % 18446744073709551616 : Nat) : Int)]]) ∧ Gr w w' := by
  obtain ⟨a0, a1, a2, a3, p0, p1, p2, p3, el, eh, A1⟩ := words2 l h h2 h1
  obtain ⟨b0, b1, q0, q1, ed, A2⟩ := words1 d h3
  obtain ⟨z0, z1, z2, z3, z4, z5, g0, g1, g2, g3, g4, g5, eq, A3⟩ := c_times42 a0 a1 a2 a3 b0 b1 p0 p1 p2 p3 q0 q1
  have ev : val h l * d = (z0 + z1 * 4294967296) + (z2 + z3 * 4294967296) * 18446744073709551616 + (z4 + z5 * 4294967296) * 340282366920938463463374607431768211456 := by
    rw [← eq, ← el, ← eh, ← ed]
    unfold val
    rw [Nat.add_comm]
  have J0 := fun O w k0 k1 => c_join0 O 6 6 z0 z1 w (by omega) g0 g1 k0 k1
  have J1 := fun O w k0 k1 => c_join1 O 6 6 z2 z3 w (by omega) g2 g3 k0 k1
  have J2 := fun O w k0 k1 => c_join2 O 6 6 z4 z5 w (by omega) g4 g5 k0 k1
  rw [ev]
  unfold Hw at g0 g1 g2 g3 g4 g5
  obtain ⟨v, hv⟩ : ∃ v, v = z0 + z1 * 4294967296 := ⟨_, rfl⟩
  obtain ⟨u, hu⟩ : ∃ v, v = z2 + z3 * 4294967296 := ⟨_, rfl⟩
  obtain ⟨t, ht⟩ : ∃ v, v = z4 + z5 * 4294967296 := ⟨_, rfl⟩
  rw [← hv] at J0
  rw [← hu] at J1
  rw [← ht] at J2
  rw [← hv, ← hu, ← ht]
  have b1' : v < 18446744073709551616 := by omega
  have b2' : u < 18446744073709551616 := by omega
  rw [show (v + u * 18446744073709551616 + t * 340282366920938463463374607431768211456) / 18446744073709551616 / 18446744073709551616 = t by omega,
    show (v + u * 18446744073709551616 + t * 340282366920938463463374607431768211456) / 18446744073709551616 % 18446744073709551616 = u by omega,
    show (v + u * 18446744073709551616 + t * 340282366920938463463374607431768211456) % 18446744073709551616 = v by omega]
  exact rtimes_core h l d a0 a1 a2 a3 b0 b1 z0 z1 z2 z3 z4 z5 t u v w A1 A2 A3 J0 J1 J2
set_option maxHeartbeats 2000000 in
set_option maxRecDepth 100000 in
theorem rprods_core (ah al ad bh bl bd p xh xl q yh yl : Nat) (k r : Int) (W : World)
    (hc : (decide (p < q) = true ∧ r = -1) ∨ (decide (p < q) = false ∧ decide (q < p) = true ∧ r = 1) ∨ (decide (p < q) = false ∧ decide (q < p) = false ∧ r = k))
    (A1 : ∀ w, Calls Tryz.prog 91 #[.agg #[.int .u64 ah, .int .u64 al], .int .u64 ad] w fun e w' => e = .returned (.tuple #[.int .u64 p, .agg #[.int .u64 xh, .int .u64 xl]]) ∧ Gr w w')
    (A2 : ∀ w, Calls Tryz.prog 91 #[.agg #[.int .u64 bh, .int .u64 bl], .int .u64 bd] w fun e w' => e = .returned (.tuple #[.int .u64 q, .agg #[.int .u64 yh, .int .u64 yl]]) ∧ Gr w w')
    (A3 : ∀ w, Calls Tryz.prog 92 #[.agg #[.int .u64 xh, .int .u64 xl], .agg #[.int .u64 yh, .int .u64 yl]] w fun e w' => e = .returned (.int .i64 k) ∧ Gr w w') :
    Calls Tryz.prog 55 #[.agg #[.int .u64 ah, .int .u64 al], .int .u64 ad, .agg #[.int .u64 bh, .int .u64 bl], .int .u64 bd] W fun e w' => e = .returned (.int .i64 r) ∧ Gr W w' := by
  have H1 := Lib.hid A1
  have H2 := Lib.hid A2
  have H3 := Lib.hid A3
  clear A1 A2 A3
  rcases hc with ⟨c1, rfl⟩ | ⟨c1, c2, rfl⟩ | ⟨c1, c2, rfl⟩
  · go_enter Tryz.func55, Tryz.ntmps55
    go_wp2_with fail
    go_at_call 91
    refine ((H1.out _)).mono ?_
    rintro e w1 ⟨rfl, hw1⟩
    have cw1_1_0 := cu hw1 (W.heap.size + 1) 0 bh (by go_simp)
    have cw1_1_1 := cu hw1 (W.heap.size + 1) 1 bl (by go_simp)
    have zw1_1 := zb cw1_1_0
    have gw1 : Gr W w1 := Gr.trans (by go_grown) hw1
    clear hw1
    go_wp2_with fail
    go_at_call 91
    refine ((H2.out _)).mono ?_
    rintro e w2 ⟨rfl, hw2⟩
    have cw2_2_0 := cu hw2 (w1.heap.size) 0 xh (by go_simp)
    have cw2_2_1 := cu hw2 (w1.heap.size) 1 xl (by go_simp)
    have zw2_2 := zb cw2_2_0
    have gw2 : Gr W w2 := Gr.trans (by have gg := gw1; have gs := gg.size; go_grown) hw2
    clear hw2 gw1 zw1_1 cw1_1_0 cw1_1_1
    go_wp2_with fail
    go_ret
    exact ⟨rfl, by have gg := gw2; have gs := gg.size; go_grown⟩
  · go_enter Tryz.func55, Tryz.ntmps55
    go_wp2_with fail
    go_at_call 91
    refine ((H1.out _)).mono ?_
    rintro e w1 ⟨rfl, hw1⟩
    have cw1_1_0 := cu hw1 (W.heap.size + 1) 0 bh (by go_simp)
    have cw1_1_1 := cu hw1 (W.heap.size + 1) 1 bl (by go_simp)
    have zw1_1 := zb cw1_1_0
    have gw1 : Gr W w1 := Gr.trans (by go_grown) hw1
    clear hw1
    go_wp2_with fail
    go_at_call 91
    refine ((H2.out _)).mono ?_
    rintro e w2 ⟨rfl, hw2⟩
    have cw2_2_0 := cu hw2 (w1.heap.size) 0 xh (by go_simp)
    have cw2_2_1 := cu hw2 (w1.heap.size) 1 xl (by go_simp)
    have zw2_2 := zb cw2_2_0
    have gw2 : Gr W w2 := Gr.trans (by have gg := gw1; have gs := gg.size; go_grown) hw2
    clear hw2 gw1 zw1_1 cw1_1_0 cw1_1_1
    go_wp2_with fail
    go_ret
    exact ⟨rfl, by have gg := gw2; have gs := gg.size; go_grown⟩
  · go_enter Tryz.func55, Tryz.ntmps55
    go_wp2_with fail
    go_at_call 91
    refine ((H1.out _)).mono ?_
    rintro e w1 ⟨rfl, hw1⟩
    have cw1_1_0 := cu hw1 (W.heap.size + 1) 0 bh (by go_simp)
    have cw1_1_1 := cu hw1 (W.heap.size + 1) 1 bl (by go_simp)
    have zw1_1 := zb cw1_1_0
    have gw1 : Gr W w1 := Gr.trans (by go_grown) hw1
    clear hw1
    go_wp2_with fail
    go_at_call 91
    refine ((H2.out _)).mono ?_
    rintro e w2 ⟨rfl, hw2⟩
    have cw2_2_0 := cu hw2 (w1.heap.size) 0 xh (by go_simp)
    have cw2_2_1 := cu hw2 (w1.heap.size) 1 xl (by go_simp)
    have zw2_2 := zb cw2_2_0
    have gw2 : Gr W w2 := Gr.trans (by have gg := gw1; have gs := gg.size; go_grown) hw2
    clear hw2 gw1 zw1_1 cw1_1_0 cw1_1_1
    go_wp2_with fail
    go_at_call 92
    refine ((H3.out _)).mono ?_
    rintro e w3 ⟨rfl, hw3⟩
    have gw3 : Gr W w3 := Gr.trans (by have gg := gw2; have gs := gg.size; go_grown) hw3
    clear hw3 gw2 zw2_2 cw2_2_0 cw2_2_1
    go_wp2_with fail
    go_ret
    exact ⟨rfl, gw3⟩
theorem c_rCompareProducts (ah al ad bh bl bd : Nat) (h1 : Wd ah) (h2 : Wd al) (h3 : Wd ad) (h4 : Wd bh) (h5 : Wd bl) (h6 : Wd bd) (W : World) :
    Calls Tryz.prog 55 #[.agg #[.int .u64 ah, .int .u64 al], .int .u64 ad, .agg #[.int .u64 bh, .int .u64 bl], .int .u64 bd] W fun e w' => e = .returned (.int .i64 (cmpN (val ah al * ad) (val bh bl * bd))) ∧ Gr W w' := by
  refine rprods_core ah al ad bh bl bd _ _ _ _ _ _ _ _ W ?_ (c_rTimes ah al ad h1 h2 h3) (c_rTimes bh bl bd h4 h5 h6) (c_rCompare _ _ _ _ (by unfold Wd; omega) (by unfold Wd; omega) (by unfold Wd; omega) (by unfold Wd; omega))
  generalize val ah al * ad = x
  generalize val bh bl * bd = y
  have ex : x = x / 18446744073709551616 / 18446744073709551616 * 340282366920938463463374607431768211456 + val (x / 18446744073709551616 % 18446744073709551616) (x % 18446744073709551616) := by unfold val; omega
  have ey : y = y / 18446744073709551616 / 18446744073709551616 * 340282366920938463463374607431768211456 + val (y / 18446744073709551616 % 18446744073709551616) (y % 18446744073709551616) := by unfold val; omega
  have bx : val (x / 18446744073709551616 % 18446744073709551616) (x % 18446744073709551616) < 340282366920938463463374607431768211456 := by unfold val; omega
  have by' : val (y / 18446744073709551616 % 18446744073709551616) (y % 18446744073709551616) < 340282366920938463463374607431768211456 := by unfold val; omega
  generalize x / 18446744073709551616 / 18446744073709551616 = p at *
  generalize y / 18446744073709551616 / 18446744073709551616 = q at *
  generalize val (x / 18446744073709551616 % 18446744073709551616) (x % 18446744073709551616) = u at *
  generalize val (y / 18446744073709551616 % 18446744073709551616) (y % 18446744073709551616) = v at *
  rcases Nat.lt_trichotomy p q with h | h | h
  · exact Or.inl ⟨decide_eq_true h, cmpN_lt (by omega)⟩
  · refine Or.inr (Or.inr ⟨decide_eq_false (by omega), decide_eq_false (by omega), ?_⟩)
    subst h
    rcases Nat.lt_trichotomy u v with g | g | g
    · rw [cmpN_lt g, cmpN_lt (by omega)]
    · rw [cmpN_eq g, cmpN_eq (by omega)]
    · rw [cmpN_gt g, cmpN_gt (by omega)]
  · exact Or.inr (Or.inl ⟨decide_eq_false (by omega), decide_eq_true h, cmpN_gt (by omega)⟩)
end Go.Proofs.YtfobmlgpjhghdaaGreatDoor
namespace Go.Proofs.YtfobmlgpjhghdaaGreatDoor
set_option linter.unusedVariables false
open Go.ChangeShapes Go.WideShapes Go.ChangeAt Go.RowKit
theorem c_rNum (h l d : Int) (w : World) : Calls Tryz.prog 56 #[.agg #[.int .u64 h, .int .u64 l, .int .u64 d]] w fun e w' => e = .returned (.agg #[.int .u64 h, .int .u64 l]) ∧ Gr w w' := by
  go_enter Tryz.func56, Tryz.ntmps56
  go_wp2
  go_returns
  exact ⟨rfl, by go_grown⟩
set_option maxHeartbeats 1000000 in
set_option maxRecDepth 100000 in
theorem rcd_core (ah al ad bh bl bd : Nat) (k r : Int) (W : World)
    (hc : (ad = 0 ∧ bd = 0 ∧ r = 0) ∨ (ad = 0 ∧ ((bd : Int) == 0) = false ∧ r = 1) ∨ (((ad : Int) == 0) = false ∧ bd = 0 ∧ r = -1) ∨ (((ad : Int) == 0) = false ∧ ((bd : Int) == 0) = false ∧ r = k))
    (A1 : ∀ w, Calls Tryz.prog 55 #[.agg #[.int .u64 ah, .int .u64 al], .int .u64 bd, .agg #[.int .u64 bh, .int .u64 bl], .int .u64 ad] w fun e w' => e = .returned (.int .i64 k) ∧ Gr w w') :
    Calls Tryz.prog 29 #[.agg #[.int .u64 ah, .int .u64 al, .int .u64 ad], .agg #[.int .u64 bh, .int .u64 bl, .int .u64 bd]] W fun e w' => e = .returned (.int .i64 r) ∧ Gr W w' := by
  have H1 := Lib.hid A1
  clear A1
  rcases hc with ⟨rfl, rfl, rfl⟩ | ⟨rfl, c2, rfl⟩ | ⟨c1, rfl, rfl⟩ | ⟨c1, c2, rfl⟩
  · go_enter Tryz.func29, Tryz.ntmps29
    go_wp2_with fail
    go_ret
    exact ⟨rfl, by go_grown⟩
  · go_enter Tryz.func29, Tryz.ntmps29
    go_wp2_with fail
    go_ret
    exact ⟨rfl, by go_grown⟩
  · go_enter Tryz.func29, Tryz.ntmps29
    go_wp2_with fail
    go_ret
    exact ⟨rfl, by go_grown⟩
  · go_enter Tryz.func29, Tryz.ntmps29
    go_wp2_with fail
    generalize hhw0 : ((W.alloc (.cells #[.int .u64 ah, .int .u64 al, .int .u64 ad] 42)).alloc (.cells #[.int .u64 bh, .int .u64 bl, .int .u64 bd] 42)) = w0
    have cw0_0_0 : w0.cell? ⟨W.heap.size, 0, none⟩ = some (.int .u64 ah) := by subst hhw0; go_simp
    have cw0_0_1 : w0.cell? ⟨W.heap.size, 1, none⟩ = some (.int .u64 al) := by subst hhw0; go_simp
    have cw0_0_2 : w0.cell? ⟨W.heap.size, 2, none⟩ = some (.int .u64 ad) := by subst hhw0; go_simp
    have zw0_0 := zb cw0_0_0
    have cw0_1_0 : w0.cell? ⟨W.heap.size + 1, 0, none⟩ = some (.int .u64 bh) := by subst hhw0; go_simp
    have cw0_1_1 : w0.cell? ⟨W.heap.size + 1, 1, none⟩ = some (.int .u64 bl) := by subst hhw0; go_simp
    have cw0_1_2 : w0.cell? ⟨W.heap.size + 1, 2, none⟩ = some (.int .u64 bd) := by subst hhw0; go_simp
    have zw0_1 := zb cw0_1_0
    have gw0 : Gr W w0 := by subst hhw0; go_grown
    clear hhw0
    go_wp2_with fail
    refine wp_region_spread (by kernel_rfl) (by kernel_rfl) ?_
    try simp only [List.append]
    repeat (first | go_big_quiet_skip | (go_big_quiet_want; go_big_quiet_op; (first | go_big_quiet_on | (apply Exists.intro; refine ⟨fun _ => ?_, ?_⟩; (· (first | (go_at_call 56; first | ((with_reducible refine ((c_rNum _ _ _ _)).mono ?_); rintro e w' ⟨rfl, hg⟩; exact ⟨rfl, spread_gr hg⟩)) | (go_at_call 55; first | ((with_reducible refine ((H1.out _)).mono ?_); rintro e w' ⟨rfl, hg⟩; exact ⟨rfl, spread_gr hg⟩)))); go_big_quiet_on))))
    refine wpQuiet_nil ?_
    intro wr hr
    obtain ⟨mr, rfl⟩ := hr
    go_wp2_with fail
    go_ret
    exact ⟨rfl, Gr.trans (by have gg := gw0; have gs := gg.size; go_grown) (gr_spread _ _)⟩
theorem c_rCompareDist (ah al ad bh bl bd : Nat) (h1 : Wd ah) (h2 : Wd al) (h3 : Wd ad) (h4 : Wd bh) (h5 : Wd bl) (h6 : Wd bd) (W : World) :
    Calls Tryz.prog 29 #[.agg #[.int .u64 ah, .int .u64 al, .int .u64 ad], .agg #[.int .u64 bh, .int .u64 bl, .int .u64 bd]] W fun e w' => e = .returned (.int .i64 (cmpD (val ah al) ad (val bh bl) bd)) ∧ Gr W w' := by
  refine rcd_core ah al ad bh bl bd _ _ W ?_ (c_rCompareProducts ah al bd bh bl ad h1 h2 h6 h4 h5 h3)
  unfold cmpD
  by_cases d1 : ad = 0
  · by_cases d2 : bd = 0
    · left; exact ⟨d1, d2, by rw [if_pos d1, if_pos d2]⟩
    · right; left; exact ⟨d1, by simpa using d2, by rw [if_pos d1, if_neg d2]⟩
  · by_cases d2 : bd = 0
    · right; right; left; exact ⟨by simpa using d1, d2, by rw [if_neg d1, if_pos d2]⟩
    · right; right; right; exact ⟨by simpa using d1, by simpa using d2, by rw [if_neg d1, if_neg d2]⟩
end Go.Proofs.YtfobmlgpjhghdaaGreatDoor
