/- enc: objects laid: the loop over the points -/
import Derived.Test.YtldlpbfncgcimaaEj
import Derived.Deep.RegionWith
namespace Go.Proofs.Ytldlpbfncgcimaa
set_option linter.unusedVariables false
open Go.ChangeShapes Go.WideShapes Go.ChangeAt Go.RowKit

/-- The bytes of n points. -/
def ptsB (X Y : Nat → Int) : Nat → List UInt8
  | 0 => []
  | i + 1 => ptsB X Y i ++ Ec.vr (zz (X i)) ++ Ec.vr (zz (Y i))
/-- An int. -/
def Iw (z : Int) : Prop := -9223372036854775808 ≤ z ∧ z < 9223372036854775808
theorem Iw.lo {z : Int} (h : Iw z) : -9223372036854775808 ≤ z := h.1
theorem Iw.hi {z : Int} (h : Iw z) : z < 9223372036854775808 := h.2
theorem zz_len {z : Int} (h : Iw z) : 1 ≤ (Ec.vr (zz z)).length ∧ (Ec.vr (zz z)).length ≤ 10 := Ec.vr_len10 (zz_wd h.1 h.2)
theorem ptsB_len (X Y : Nat → Int) (h : ∀ i, Iw (X i) ∧ Iw (Y i)) (n : Nat) : (ptsB X Y n).length ≤ 20 * n := by
  induction n with
  | zero => simp [ptsB]
  | succ n ih =>
    simp only [ptsB, List.length_append]
    have h1 := (zz_len (h n).1).2
    have h2 := (zz_len (h n).2).2
    omega
theorem own_alloc {w : World} {base : Nat} {v : Value} {L : List UInt8} (h : Own w base v L) (o : Obj) : Own (w.alloc o) base v L := World.ownsRow.alloc h o
theorem Grown.drew {a b : World} {u v : Value} (h : Grown a b u v) : Grown a b.drew u v := ⟨⟨h.1.os, h.1.tape, h.1.output, h.1.size, h.1.block⟩, h.2⟩
set_option maxHeartbeats 4000000 in
set_option maxRecDepth 100000 in
theorem c_appendObject (L : List UInt8) (b : Value) (base k n cap B off : Nat) (ad : Option Addr) (X Y : Nat → Int) (hX : ∀ i, Iw (X i) ∧ Iw (Y i)) (hk : k ≤ 1000) (hn : n ≤ 1000) (hA : 0 < n → ad = some ⟨B, off, none⟩) (W : World) (hL : L.length ≤ 50000) (hb : base ≤ W.heap.size) (hO : Own W base b L)
    (hB : ∀ g, b.ownBlock = some g → g ≠ B) (hP : ∀ i, i < n → W.cell? ⟨B, off + i * 2, none⟩ = some (.int .i64 (X i)) ∧ W.cell? ⟨B, off + i * 2 + 1, none⟩ = some (.int .i64 (Y i))) :
    Calls Try.prog 43 #[b, .agg #[.int .i64 k, .slice ad n cap]] W fun e w' => ∃ b', e = .returned b' ∧ Own w' base b' (L ++ Ec.vr k ++ Ec.vr n ++ ptsB X Y n) ∧ Grown W w' b b' := by
  have HO := Lib.hid hO
  have HX := Lib.hid hX
  have HA := Lib.hid hA
  have HB := Lib.hid hB
  have HP := Lib.hid hP
  have hbl : ∀ g, b.ownBlock = some g → g < W.heap.size := fun g h => (World.ownsRow.lt hO g h).2
  have HBL := Lib.hid hbl
  clear hO hX hA hB hP hbl
  have l1 := (Ec.vr_len10 (v := k) (by omega)).2
  have l2 := (Ec.vr_len10 (v := n) (by omega)).2
  have e1 : (k : Int) % 18446744073709551616 = k := by omega
  have e2 : (n : Int) % 18446744073709551616 = n := by omega
  have e3 : IntKind.u64.wrap (k : Int) = k := by rw [IntKind.wrap_u64]; omega
  have e4 : IntKind.u64.wrap (n : Int) = n := by rw [IntKind.wrap_u64]; omega
  go_enter Try.func43, Try.ntmps43
  go_wp2_with fail
  go_at_call 34
  (with_reducible refine (c_appendVarint L b k base (by unfold Wd; omega) _ (by omega) (by simp; omega) (own_alloc HO.out _)).mono ?_)
  rintro e w1 ⟨b1, rfl, own1, gr1⟩
  have hne : ∀ g, b.ownBlock = some g → g ≠ W.heap.size := fun g h => by have := HBL.out g h; omega
  have c1 : w1.cell? ⟨W.heap.size, 1, none⟩ = some (.slice ad n cap) := Grown.cell gr1 (by go_simp) (fun g h e => hne g h e)
  have z1 : W.heap.size < w1.heap.size := by have := gr1.size; simp at this; omega
  have O1 := Lib.hid own1
  have G1 := Lib.hid gr1
  clear gr1 own1 hne
  go_wp2_with fail
  go_at_call 34
  (with_reducible refine (c_appendVarint (L ++ Ec.vr k) b1 n base (by unfold Wd; omega) _ (by simp; omega) (by omega) O1.out).mono ?_)
  rintro e w2 ⟨b2, rfl, own2, gr2⟩
  have hne : ∀ g, b1.ownBlock = some g → g ≠ W.heap.size := fun g h => by
    rcases G1.out.at g h with h1 | h1
    · have := HBL.out g h1; omega
    · simp at h1; omega
  have c2 : w2.cell? ⟨W.heap.size, 1, none⟩ = some (.slice ad n cap) := Grown.cell gr2 c1 (fun g h e => hne g h e)
  have z2 : W.heap.size < w2.heap.size := by have := gr2.size; omega
  have G2 := Lib.hid (G1.out.trans gr2)
  have O2 := Lib.hid own2
  clear gr2 own2 c1 z1 G1 O1 hne
  go_wp2_with fail
  go_loopg [0, 21] n (fun m bb x wr => ∃ i : Nat, x = .int .i64 i ∧ i ≤ n ∧ m = n - i ∧ Own wr base bb (L ++ Ec.vr k ++ Ec.vr n ++ ptsB X Y i) ∧ Grown (W.alloc (.cells #[.int .i64 k, .slice ad n cap] 77)) wr b bb)
  case atStart => exact ⟨0, rfl, Nat.zero_le _, by omega, by simpa [ptsB] using O2.out, G2.out⟩
  case round =>
    obtain ⟨i, rfl, hi, hm, hOw, hG⟩ := hrel
    have hsz := hG.size
    simp at hsz
    have hlen := ptsB_len X Y HX.out i
    have HOw := Lib.hid hOw
    have HG := Lib.hid hG
    clear hOw hG O2 G2
    by_cases h : i < n
    · have ti : decide ((i : Int) < (n : Int)) = true := decide_eq_true (by omega)
      have ti2 : decide (i < n) = true := decide_eq_true h
      have tn : (i : Int) < (n : Int) := by omega
      obtain rfl := HA.out (by omega)
      have ne2 : ∀ g, b.ownBlock = some g → g ≠ B := HB.out
      have hp := HP.out i h
      have hbb : B < W.heap.size := World.block_lt_of_cell? _ _ hp.1
      have p0 : wr.cell? ⟨B, off + i * 2, none⟩ = some (.int .i64 (X i)) := Grown.cell HG.out (cell_gr (by go_grown) hp.1) (fun g hg e => ne2 g hg e)
      have p1 : wr.cell? ⟨B, off + i * 2 + 1, none⟩ = some (.int .i64 (Y i)) := Grown.cell HG.out (cell_gr (by go_grown) hp.2) (fun g hg e => ne2 g hg e)
      have hXi := HX.out i
      have hu : ∀ g, u0.ownBlock = some g → g ≠ wr.heap.size := fun g h => by have := (World.ownsRow.lt HOw.out g h).2; omega
      have HU := Lib.hid hu
      have hls : (L ++ Ec.vr k ++ Ec.vr n ++ ptsB X Y i).length ≤ 90000 := by simp; omega
      have hle := (zz_len hXi.1).2
      obtain ⟨LL, eLL⟩ : ∃ LL, LL = L ++ Ec.vr k ++ Ec.vr n ++ ptsB X Y i := ⟨_, rfl⟩
      have hE : L ++ Ec.vr k ++ Ec.vr n ++ ptsB X Y (i + 1) = LL ++ Ec.vr (zz (X i)) ++ Ec.vr (zz (Y i)) := by rw [eLL]; simp only [ptsB, List.append_assoc]
      rw [← eLL] at HOw hls
      have HE := Lib.hid hE
      have HXI := Lib.hid hXi
      obtain ⟨wz, hwz⟩ : ∃ wz, wz = wr.heap.size := ⟨_, rfl⟩
      clear hp ne2 c2 hu hXi eLL hE
      go_wp2_with fail
      go_region_with (go_at_call 35; first
        | ((with_reducible refine (c_appendSigned LL u0 (X i) base HXI.out.1.lo HXI.out.1.hi _ (by omega) (by simp; omega) ?_).mono ?_); (· exact own_alloc HOw.out _); rintro e wa ⟨ba, rfl, owna, gra⟩; have ca := Grown.cell gra (p := ⟨wr.heap.size, 1, none⟩) (x := .int .i64 (Y i)) (by go_simp) (fun g h e => HU.out g h e); have Gra := Lib.hid gra; have Owna := Lib.hid owna; clear gra owna)
        | ((with_reducible refine (c_appendSigned (LL ++ Ec.vr (zz (X i))) ba (Y i) base HXI.out.2.lo HXI.out.2.hi _ (by simp; omega) (by have := Gra.out.size; simp at this; first | omega | (simp; omega)) ?_).mono ?_); (· exact Owna.out); rintro e wb ⟨bz, rfl, ownb, grb⟩; have Grb := Lib.hid grb; have Ownb := Lib.hid ownb; clear grb ownb))
      all_goals
        go_wp2_with fail
        go_roundg (n - (i + 1))
        case measure => omega
        case rel => exact ⟨i + 1, by go_num, by omega, rfl, by rw [HE.out]; exact Ownb.out, ((HG.out.alloc _).drew.trans Gra.out).trans Grb.out⟩
    · have e : i = n := by omega
      subst e
      have ti : decide ((i : Int) < (i : Int)) = false := decide_eq_false (by omega)
      go_wp2_with fail
      go_ret
      exact ⟨_, rfl, HOw.out, ((Grown.refl W b).alloc _).trans HG.out⟩
end Go.Proofs.Ytldlpbfncgcimaa
