/- the document's own text of a number -/
import Derived.Test.YthjhhnolkiejpaaDoorRk
import Derived.ArgAppend
import Derived.OwnWalk
import Derived.Test.YthjhhnolkiejpaaDoorVa
namespace Go.Proofs.YthjhhnolkiejpaaDoor
set_option linter.unusedVariables false
open Go.ChangeShapes Go.WideShapes Go.ChangeAt Go.RowKit

theorem addr_plain (b off n : Nat) : (⟨b, off, none⟩ : Addr).add n = ⟨b, off + n, none⟩ := by
  unfold Addr.add
  split
  · rename_i h; simp
  · rfl
/-- A row that is owned, and not empty: where it lies. -/
theorem own_some {w : World} {base : Nat} {e : TypeId} {v : Value} {n : Nat} {xs : List Value} (h : w.ownsRow base e 1 v n xs) (hn : 0 < n) : ∃ g cap, v = .slice (some ⟨g, 0, none⟩) n cap ∧ base ≤ g ∧ ∀ j, j < n → w.cell? ⟨g, j, none⟩ = xs[j]? := by
  rcases h.2 with ⟨-, h0⟩ | ⟨g, cap, cur, rfl, hb, -⟩
  · omega
  · exact ⟨g, cap, rfl, hb, fun j hj => h.cellAt j (by omega)⟩
/-- A slice that reads as these bytes. -/
def SliceB (B : Nat) (w : World) (v : Value) (T : List UInt8) : Prop := (T = [] ∧ v = .slice none 0 0) ∨ (T ≠ [] ∧ ∃ g c, B < g ∧ v = .slice (some ⟨g, 0, none⟩) T.length c ∧ ∀ j (hj : j < T.length), w.cell? ⟨g, j, none⟩ = some (.int .u8 (T[j].toNat : Int)))
/-- What holds at the head of Text's loop. -/
def TextRR (B N : Nat) (W : World) (k : Nat) (v : Value) (wr : World) : Prop :=
  ∃ (h l : Nat) (T : List UInt8), Wd h ∧ Wd l ∧ val h l ≤ k ∧ Lib.decDigits N = Lib.decDigits (val h l) ++ T ∧ SliceB B wr v T ∧
    wr.cell? ⟨B, 0, none⟩ = some (.int .u64 h) ∧ wr.cell? ⟨B, 1, none⟩ = some (.int .u64 l) ∧ wr.frozen? ⟨B, 0, none⟩ = false ∧ wr.frozen? ⟨B, 1, none⟩ = false ∧ Gr W wr

/-- One digit more ahead. -/
theorem dec_more {a r q : Nat} (hr : r = a % 10) (hq : q = a / 10) (h : q ≠ 0) : Lib.decDigits a = Lib.decDigits q ++ [UInt8.ofNat (48 + r)] := by
  subst hr hq
  rw [Lib.decDigits]
  rw [dif_neg (by omega)]
theorem dec_one {a r : Nat} (hr : r = a % 10) (h : a / 10 = 0) : Lib.decDigits a = [UInt8.ofNat (48 + r)] := by
  have : r = a := by omega
  subst this
  rw [Lib.decDigits, dif_pos (by omega)]
theorem dig_byte {r : Nat} (h : r ≤ 9) : ((UInt8.ofNat (48 + r)).toNat : Int) = 48 + (r : Int) := by
  rw [UInt8.toNat_ofNat']
  omega
set_option maxHeartbeats 4000000 in
set_option maxRecDepth 100000 in
theorem c_rText (hi lo : Nat) (h1 : Wd hi) (h2 : Wd lo) (w : World) :
    Calls Tryd.prog 24 #[.agg #[.int .u64 hi, .int .u64 lo]] w fun e w' => e = .returned (.string ⟨(Lib.decDigits (val hi lo)).toArray⟩) ∧ Gr w w' := by
  obtain ⟨i0, hi0, hz0, hz1, hz2⟩ := info_parts (P := Tryd.prog) (e := 5) (z := .int .u8 0) (size := 1) (bytes := 1) (by kernel_rfl)
  have HI := Lib.hid hi0
  have HZ0 := Lib.hid hz0
  have HZ1 := Lib.hid hz1
  have HZ2 := Lib.hid hz2
  obtain ⟨N, hN⟩ : ∃ N, N = val hi lo := ⟨_, rfl⟩
  rw [← hN]
  have hnd : Lib.nDigits N ≤ 39 := by
    refine nDig_le (by omega) ?_
    rw [hN]; unfold val Wd at *; omega
  have HN := Lib.hid hN
  have HND := Lib.hid hnd
  clear hN hi0 hz0 hz1 hz2 hnd
  go_enter Tryd.func24, Tryd.ntmps24
  go_wp2_with fail
  go_loopg [3] (val hi lo) (fun k v wr => TextRR w.heap.size N w k v wr)
  case atStart => exact ⟨hi, lo, [], h1, h2, Nat.le_refl _, by rw [List.append_nil, HN.out], Or.inl ⟨rfl, rfl⟩, by go_simp, by go_simp, by go_simp, by go_simp, by go_grown⟩
  case round =>
    obtain ⟨h, l, T, hh, hl, hk, hT, hv, c0, c1, f0, f1, gwr⟩ := hrel
    have zB := World.block_lt_of_cell? _ _ c0
    obtain ⟨a, ea⟩ : ∃ a, a = val h l := ⟨_, rfl⟩
    obtain ⟨qh, eqh⟩ : ∃ q, q = a / 10 / 18446744073709551616 := ⟨_, rfl⟩
    obtain ⟨ql, eql⟩ : ∃ q, q = a / 10 % 18446744073709551616 := ⟨_, rfl⟩
    obtain ⟨r, er⟩ : ∃ q, q = a % 10 := ⟨_, rfl⟩
    have D := fun w => c_rDiv h l 10 hh hl (by unfold Wd; omega) (by omega) w
    rw [← ea, ← eqh, ← eql, ← er] at D
    have H1 := Lib.hid D
    have r9 : (r : Int) ≤ 9 := by omega
    have r0 : (0 : Int) ≤ (r : Int) := by omega
    have hq : val qh ql = a / 10 := by rw [eqh, eql]; unfold val; omega
    have wqh : Wd qh := by rw [eqh, ea]; unfold val Wd at *; omega
    have wql : Wd ql := by rw [eql]; unfold Wd; omega
    have HE := Lib.hid (And.intro ea (And.intro er (And.intro hq (And.intro wqh wql))))
    have HT := Lib.hid hT
    have HK := Lib.hid hk
    clear D ea eqh eql er hq wqh wql hT hk
    have hr9 : r ≤ 9 := by omega
    have hcs : (a / 10 = 0 ∧ ((qh : Int) == 0) = true ∧ ((ql : Int) == 0) = true) ∨ (a / 10 ≠ 0 ∧ ((qh : Int) == 0) = false) ∨ (a / 10 ≠ 0 ∧ ((qh : Int) == 0) = true ∧ ((ql : Int) == 0) = false) := by
      have := HE.out.2.2.1
      by_cases x1 : qh = 0
      · by_cases x2 : ql = 0
        · left; refine ⟨?_, by simp; omega, by simp; omega⟩; rw [← this, x1, x2]; rfl
        · right; right; refine ⟨?_, by simp; omega, by simp; omega⟩; rw [← this, x1]; unfold val; omega
      · right; left; refine ⟨?_, by simp; omega⟩; rw [← this]; unfold val; omega
    have hTlen : T.length ≤ 39 := by
      have := congrArg List.length HT.out
      rw [Lib.decDigits_length, List.length_append] at this
      have := HND.out
      omega
    obtain ⟨d, ed⟩ : ∃ d, d = UInt8.ofNat (48 + r) := ⟨_, rfl⟩
    have eb := dig_byte hr9
    rw [← ed] at eb
    have HD := Lib.hid eb
    have hfin : a / 10 = 0 → Lib.decDigits N = d :: T := fun hz => by
      rw [HT.out, ← HE.out.1, dec_one HE.out.2.1 hz, ← ed]; rfl
    have hgo : a / 10 ≠ 0 → Lib.decDigits N = Lib.decDigits (val qh ql) ++ d :: T ∧ val qh ql < gk := fun hz => by
      refine ⟨?_, ?_⟩
      · rw [HT.out, ← HE.out.1, dec_more HE.out.2.1 HE.out.2.2.1 (by rw [HE.out.2.2.1]; exact hz), ← ed, List.append_assoc]; rfl
      · rw [HE.out.2.2.1]; have := HK.out; rw [← HE.out.1] at this; omega
    have HFIN := Lib.hid hfin
    have HGO := Lib.hid hgo
    have wq := HE.out.2.2.2
    clear hfin hgo HT HE ed eb HK
    rcases hv with ⟨rfl, rfl⟩ | ⟨hTn, g, c, hBg, rfl, hcell⟩
    · rcases hcs with ⟨hz, e0, e1⟩ | ⟨hz, e0⟩ | ⟨hz, e0, e1⟩
      · have HF := Lib.hid (HFIN.out hz)
        clear hz HFIN HGO wq
        go_wp2_with fail
        go_at_call 54
        refine ((H1.out _)).mono ?_
        rintro e w1 ⟨rfl, hw1⟩
        have cw1_0_0 : w1.cell? ⟨w.heap.size, 0, none⟩ = some (.int .u64 h) := cell_gr hw1 (by go_simp)
        have fw1_0_0 : w1.frozen? ⟨w.heap.size, 0, none⟩ = false := frozen_gr (v := .int .u64 h) hw1 (by go_simp) (by go_simp)
        have cw1_0_1 : w1.cell? ⟨w.heap.size, 1, none⟩ = some (.int .u64 l) := cell_gr hw1 (by go_simp)
        have fw1_0_1 : w1.frozen? ⟨w.heap.size, 1, none⟩ = false := frozen_gr (v := .int .u64 l) hw1 (by go_simp) (by go_simp)
        have zw1_0 : w.heap.size < w1.heap.size := World.block_lt_of_cell? _ _ cw1_0_0
        have gw1 : Gr w w1 := Gr.trans (by have gg := gwr; have gs := gg.size; go_grown) hw1
        clear hw1 gwr
        have hcv := run_convert_bytes_back (P := Tryd.prog) ((((w1.setCell ⟨w.heap.size, 0, none⟩ (.int .u64 qh)).setCell ⟨w.heap.size, 1, none⟩ (.int .u64 ql)).alloc (.cells #[.int .u64 qh, .int .u64 ql] 28)).alloc (.cells #[.int .u8 (48 + (r : Int))] 5)) 93 9 5 ⟨w1.heap.size + 1, 0, none⟩ 1 [d] Tryd.underlying93 Tryd.underlying5 Tryd.underlying9 (fun j hj => by
          obtain rfl : j = 0 := by simpa using hj
          show World.cell? _ _ = some (.int .u8 (d.toNat : Int))
          rw [HD.out]; go_simp)
        rw [show [d].length = 1 from rfl] at hcv
        go_wp2_with fail
        go_ret
        exact ⟨by rw [HF.out]; rfl, by have gg := gw1; have gs := gg.size; go_grown⟩
      all_goals
        have HF := Lib.hid (HGO.out hz)
        clear hz HFIN HGO
        go_wp2_with fail
        go_at_call 54
        refine ((H1.out _)).mono ?_
        rintro e w1 ⟨rfl, hw1⟩
        have cw1_0_0 : w1.cell? ⟨w.heap.size, 0, none⟩ = some (.int .u64 h) := cell_gr hw1 (by go_simp)
        have fw1_0_0 : w1.frozen? ⟨w.heap.size, 0, none⟩ = false := frozen_gr (v := .int .u64 h) hw1 (by go_simp) (by go_simp)
        have cw1_0_1 : w1.cell? ⟨w.heap.size, 1, none⟩ = some (.int .u64 l) := cell_gr hw1 (by go_simp)
        have fw1_0_1 : w1.frozen? ⟨w.heap.size, 1, none⟩ = false := frozen_gr (v := .int .u64 l) hw1 (by go_simp) (by go_simp)
        have zw1_0 : w.heap.size < w1.heap.size := World.block_lt_of_cell? _ _ cw1_0_0
        have gw1 : Gr w w1 := Gr.trans (by have gg := gwr; have gs := gg.size; go_grown) hw1
        clear hw1 gwr
        go_wp2_with fail
        go_roundg (val qh ql)
        case measure => exact HF.out.2
        case rel => exact ⟨qh, ql, [d], wq.1, wq.2, Nat.le_refl _, HF.out.1, Or.inr ⟨by simp, w1.heap.size + 1, 1, by omega, rfl, fun j hj => by (obtain rfl : j = 0 := by simpa using hj); (show World.cell? _ _ = some (.int .u8 (d.toNat : Int))); rw [HD.out]; go_simp⟩, by go_simp, by go_simp, by go_simp, by go_simp, by have gg := gw1; have gs := gg.size; go_grown⟩
    · have HC := Lib.hid hcell
      have zg : g < wr.heap.size := World.block_lt_of_cell? _ _ (hcell 0 (List.length_pos_iff.2 hTn))
      have hT0 : 0 < T.length := List.length_pos_iff.2 hTn
      clear hcell hTn
      have gB : ¬ g = w.heap.size := by omega
      go_wp2_with fail
      go_at_call 54
      refine (H1.out _).mono ?_
      rintro e w1 ⟨rfl, hw1⟩
      have hc1 : ∀ j (hj : j < T.length), w1.cell? ⟨g, j, none⟩ = some (.int .u8 (T[j].toNat : Int)) := fun j hj => cell_gr hw1 (HC.out j hj)
      have zg1 : g < w1.heap.size := World.block_lt_of_cell? _ _ (hc1 0 hT0)
      have HC1 := Lib.hid hc1
      clear hc1
      have k0 := cell_gr hw1 c0
      have k1 := cell_gr hw1 c1
      have m0 := frozen_gr hw1 c0 f0
      have m1 := frozen_gr hw1 c1 f1
      have zB1 := World.block_lt_of_cell? _ _ k0
      have gw1 : Gr w w1 := Gr.trans gwr hw1
      clear hw1 c0 c1 f0 f1 zB gwr HC zg
      have hL : ∀ j u, [Value.int .u8 (48 + (r : Int))][j]? = some u → ((w1.alloc (.cells #[.int .u64 qh, .int .u64 ql] 28)).alloc (.cells #[.int .u8 (48 + (r : Int))] 5)).cell? ((⟨w1.heap.size + 1, 0, none⟩ : Addr).add j) = some u := fun j u hu => by
        match j, hu with
        | 0, hu => (cases hu; go_simp)
        | j + 1, hu => (simp at hu)
      have hR : ∀ j u, (T.map fun x => Value.int .u8 (x.toNat : Int))[j]? = some u → ((w1.alloc (.cells #[.int .u64 qh, .int .u64 ql] 28)).alloc (.cells #[.int .u8 (48 + (r : Int))] 5)).cell? ((⟨g, 0, none⟩ : Addr).add j) = some u := fun j u hu => by
        have hj : j < T.length := by have := (List.getElem?_eq_some_iff.1 hu).1; simpa using this
        have hx := HC1.out j hj
        have eu : u = .int .u8 (T[j].toNat : Int) := by simp [List.getElem?_eq_getElem hj] at hu; exact hu.symm
        rw [eu, addr_plain, Nat.zero_add]; go_simp
      have HL := Lib.hid hL
      have HR := Lib.hid hR
      clear hL hR
      have hpair : ∀ (v1 : Value) (w2 : World), w2.ownsRow ((w1.alloc (.cells #[.int .u64 qh, .int .u64 ql] 28)).alloc (.cells #[.int .u8 (48 + (r : Int))] 5)).heap.size 5 1 v1 (1 + T.length) ([.int .u8 (48 + (r : Int))] ++ T.map fun x => .int .u8 (x.toNat : Int)) → ((w1.alloc (.cells #[.int .u64 qh, .int .u64 ql] 28)).alloc (.cells #[.int .u8 (48 + (r : Int))] 5)).grownBy w2 none →
          ∃ g1 cap1, v1 = .slice (some ⟨g1, 0, none⟩) (1 + T.length) cap1 ∧ w.heap.size < g1 ∧ (∀ j (hj : j < (d :: T).length), w2.cell? ⟨g1, j, none⟩ = some (.int .u8 ((d :: T)[j].toNat : Int))) ∧ Gr w w2 ∧ w2.cell? ⟨w.heap.size, 0, none⟩ = some (.int .u64 h) ∧ w2.cell? ⟨w.heap.size, 1, none⟩ = some (.int .u64 l) ∧ w2.frozen? ⟨w.heap.size, 0, none⟩ = false ∧ w2.frozen? ⟨w.heap.size, 1, none⟩ = false ∧ w2.cell? ⟨w1.heap.size, 0, none⟩ = some (.int .u64 qh) ∧ w2.cell? ⟨w1.heap.size, 1, none⟩ = some (.int .u64 ql) ∧ (convert 93 9 (.slice (some ⟨g1, 0, none⟩) (1 + T.length) cap1)).run Tryd.prog ((w2.setCell ⟨w.heap.size, 0, none⟩ (.int .u64 qh)).setCell ⟨w.heap.size, 1, none⟩ (.int .u64 ql)) = .ok (.string ⟨(d :: T).toArray⟩) ((w2.setCell ⟨w.heap.size, 0, none⟩ (.int .u64 qh)).setCell ⟨w.heap.size, 1, none⟩ (.int .u64 ql)) := by
        intro v1 w2 own grow
        have gx := gr_of_grown (Gr.of_eq (rfl : _ = _)) grow (fun k h => by cases h)
        obtain ⟨g1, cap1, e1, hb, hc⟩ := own_some own (by omega)
        have hcd : ∀ j (hj : j < (d :: T).length), w2.cell? ⟨g1, j, none⟩ = some (.int .u8 ((d :: T)[j].toNat : Int)) := by
          intro j hj
          rw [hc j (by simp at hj; omega)]
          match j, hj with
          | 0, _ => (show some (Value.int .u8 (48 + (r : Int))) = some (.int .u8 (d.toNat : Int))); rw [HD.out]
          | j + 1, hj =>
            have hj' : j < T.length := by simpa using hj
            simp [List.getElem?_eq_getElem hj']
        have hgt : w.heap.size < g1 := by have := hb; simp at this; omega
        refine ⟨g1, cap1, e1, hgt, hcd, Gr.trans (by have gg := gw1; have gs := gg.size; go_grown) gx, cell_gr gx (by go_simp), cell_gr gx (by go_simp), frozen_gr (v := .int .u64 h) gx (by go_simp) (by go_simp), frozen_gr (v := .int .u64 l) gx (by go_simp) (by go_simp), cell_gr gx (by go_simp), cell_gr gx (by go_simp), ?_⟩
        have el : (d :: T).length = 1 + T.length := by simp; omega
        rw [← el]
        refine run_convert_bytes_back (P := Tryd.prog) _ 93 9 5 ⟨g1, 0, none⟩ cap1 (d :: T) Tryd.underlying93 Tryd.underlying5 Tryd.underlying9 (fun j hj => ?_)
        rw [addr_plain, Nat.zero_add, World.cell?_setCell_other _ _ _ _ (by intro hx; (try simp at hx); (try omega)), World.cell?_setCell_other _ _ _ _ (by intro hx; (try simp at hx); (try omega))]
        exact hcd j hj
      have HPR := Lib.hid hpair
      clear hpair gw1
      rcases hcs with ⟨hz, e0, e1⟩ | ⟨hz, e0⟩ | ⟨hz, e0, e1⟩
      · have HF := Lib.hid (HFIN.out hz)
        clear hz HFIN HGO wq
        go_wp2_with (at_builtin; refine wpList_append_grows _ rfl (.tmp 14) (.tmp 15) 93 rfl 5 i0 (.int .u8 0) 1 1 Tryd.underlying93 HI.out HZ0.out HZ1.out HZ2.out rfl (by decide) (some ⟨w1.heap.size + 1, 0, none⟩) 1 1 [.int .u8 (48 + (r : Int))] rfl (by intro h; cases h) rfl (by intro b hb; cases hb; exact HL.out) ⟨g, 0, none⟩ T.length c (T.map fun x => .int .u8 (x.toNat : Int)) rfl (by simp) HR.out (by intro u hu; (obtain ⟨x, -, rfl⟩ := List.mem_map.1 hu); rfl) (by omega) (by unfold maxLen; omega) (by omega) ?_; intro v1 w2 own1 grow1; obtain ⟨g1, cap1, rfl, hg1, hcell1, gw2, p0, p1, q0, q1, y0, y1, hcv⟩ := HPR.out _ _ own1 grow1; have zw2 := World.block_lt_of_cell? _ _ p0; have HCL := Lib.hid hcell1; clear own1 grow1 k0 k1 m0 m1 hcell1 HL HR HPR zB1 HC1 zg1)
        go_ret
        exact ⟨by rw [HF.out]; rfl, by have gg := gw2; have gs := gg.size; go_grown⟩
      all_goals
        have HF := Lib.hid (HGO.out hz)
        clear hz HFIN HGO
        go_wp2_with (at_builtin; refine wpList_append_grows _ rfl (.tmp 14) (.tmp 15) 93 rfl 5 i0 (.int .u8 0) 1 1 Tryd.underlying93 HI.out HZ0.out HZ1.out HZ2.out rfl (by decide) (some ⟨w1.heap.size + 1, 0, none⟩) 1 1 [.int .u8 (48 + (r : Int))] rfl (by intro h; cases h) rfl (by intro b hb; cases hb; exact HL.out) ⟨g, 0, none⟩ T.length c (T.map fun x => .int .u8 (x.toNat : Int)) rfl (by simp) HR.out (by intro u hu; (obtain ⟨x, -, rfl⟩ := List.mem_map.1 hu); rfl) (by omega) (by unfold maxLen; omega) (by omega) ?_; intro v1 w2 own1 grow1; obtain ⟨g1, cap1, rfl, hg1, hcell1, gw2, p0, p1, q0, q1, y0, y1, hcv⟩ := HPR.out _ _ own1 grow1; have zw2 := World.block_lt_of_cell? _ _ p0; have HCL := Lib.hid hcell1; clear own1 grow1 k0 k1 m0 m1 hcell1 HL HR HPR zB1 HC1 zg1)
        go_roundg (val qh ql)
        case measure => exact HF.out.2
        case rel => exact ⟨qh, ql, d :: T, wq.1, wq.2, Nat.le_refl _, HF.out.1, Or.inr ⟨by simp, g1, cap1, by omega, by rw [List.length_cons, Nat.add_comm], fun j hj => by rw [World.cell?_setCell_other _ _ _ _ (by intro hx; (try simp at hx); (try omega)), World.cell?_setCell_other _ _ _ _ (by intro hx; (try simp at hx); (try omega))]; exact HCL.out j hj⟩, by go_simp, by go_simp, by go_simp, by go_simp, by have gg := gw2; have gs := gg.size; go_grown⟩
end Go.Proofs.YthjhhnolkiejpaaDoor
