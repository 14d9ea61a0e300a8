/- slots: Bytes -/
import Derived.Test.YtilijbplfobneaaDoorMc
import Derived.Test.YtilijbplfobneaaDoorFb
namespace Go.Proofs.YtilijbplfobneaaDoor
set_option linter.unusedVariables false
set_option linter.unusedSimpArgs false
open Go.ChangeShapes Go.WideShapes Go.ChangeAt Go.RowKit Go.Maps

theorem end_facts {S : List Sl} (hu : usS S ≤ 512) {i : Nat} {L : List UInt8} (hi : i < S.length) (h60 : S.length ≤ 60) (h : S.getD i none = some L) {a b A A2 l1 : Nat} (ha : a = endS S i) (hb : b = endS S (i + 1)) (hA : A = 16 + 4 * i) (hA2 : A2 = 18 + 4 * i) (hl : l1 = L.length + 1) :
    wrap64 ((a : Int) - (L.length : Int)) = (b : Int) ∧ IntKind.i64.wrap ((a : Int) - (L.length : Int)) = (b : Int) ∧ wrap64 (4 * (i : Int)) = 4 * (i : Int) ∧ IntKind.i64.wrap (4 * (i : Int)) = 4 * (i : Int) ∧
    wrap64 (16 + 4 * (i : Int)) = (A : Int) ∧ IntKind.i64.wrap (16 + 4 * (i : Int)) = (A : Int) ∧ wrap64 ((A : Int) + 2) = (A2 : Int) ∧ IntKind.i64.wrap ((A : Int) + 2) = (A2 : Int) ∧
    wrap64 ((L.length : Int) + 1) = (l1 : Int) ∧ IntKind.i64.wrap ((L.length : Int) + 1) = (l1 : Int) ∧ b + L.length ≤ 512 ∧ b ≤ 512 ∧ L.length ≤ 512 := by
  obtain ⟨h1, h2, h3⟩ := endS_some hu hi h
  have e1 : (a : Int) - (L.length : Int) = (b : Int) := by omega
  have e3 : 16 + 4 * (i : Int) = (A : Int) := by omega
  have e4 : (A : Int) + 2 = (A2 : Int) := by omega
  have e5 : (L.length : Int) + 1 = (l1 : Int) := by omega
  rw [e1, e3, e4, e5]
  exact ⟨wr_small (by omega), wk_small (by omega), wr_small (by omega), wk_small (by omega), wr_small (by omega), wk_small (by omega), wr_small (by omega), wk_small (by omega), wr_small (by omega), wk_small (by omega), by omega, by omega, by omega⟩
theorem end_bounds {i eb l : Nat} (h60 : i < 60) (h1 : eb + l ≤ 512) (g : Nat) : 16 + 4 * i < 512 ∧ 18 + 4 * i < 512 ∧ 16 + 4 * i + 2 ≤ 512 ∧ 18 + 4 * i + 2 ≤ 512 ∧ eb < 65536 ∧ l + 1 < 65536 ∧ (eb : Int) ≤ 512 ∧ ((16 + 4 * i : Nat) : Int) ≤ 512 ∧ ((18 + 4 * i : Nat) : Int) ≤ 512 ∧ 2 ≤ 512 - (16 + 4 * i) ∧ 2 ≤ 512 - (18 + 4 * i) ∧ l ≤ 512 - eb ∧ (0 < l → eb < 512) := by
  omega
section
variable {B : Nat} {C : Option Nat} {S : List Sl}
set_option maxHeartbeats 4000000 in
set_option maxRecDepth 100000 in
theorem p_bytesS (kd id : Nat) (hk : kd ≤ 255) (hid : id ≤ 4294967295) (hu : usS S ≤ 512) (W : World) (hF : FT W) (h : PageS W B C kd id S) :
    Calls Tryd.prog 22 #[.pointer (some ⟨B, 0, none⟩)] W fun e w' => ∃ g, e = .returned (.slice (some ⟨g, 0, none⟩) 512 512) ∧ W.heap.size ≤ g ∧ Full w' g 512 (pgB kd id S) ∧ Gr W w' := by
  obtain ⟨i0, hi0, hz0, hz1, hz2⟩ := info_parts (P := Tryd.prog) (e := 5) (z := .int .u8 0) (size := 1) (bytes := 1) (by kernel_rfl)
  have HI := Lib.hid (And.intro hi0 (And.intro hz0 (And.intro hz1 hz2)))
  clear hi0 hz0 hz1 hz2
  obtain ⟨o512, M1, M2⟩ := make512
  have HM := Lib.hid M2
  have HFT := Lib.hid hF
  have hB := pageS_lt h
  obtain ⟨D, sa, cap, hp, had, h60, hcap, hcap2, hcc⟩ := pageS_cells h
  have A1 := fun w (g : Gr W w) => p_none w (pageAt_gr hp g)
  obtain ⟨p0, p1, p2, p3, f3⟩ := hp
  have hcc2 : ∀ i, i < S.length → ∃ a z c, W.cell? ⟨D, i * 2, none⟩ = some (.bool (S.getD i none).isSome) ∧ W.cell? ⟨D, i * 2 + 1, none⟩ = some (.slice a z c) ∧ ∀ L, S.getD i none = some L → z = L.length ∧ Row W (.slice a L.length c) L := fun i hi => by
    obtain ⟨e1, v, e2, e3⟩ := hcc i hi
    obtain ⟨a, c, rfl⟩ := slotC_val e3
    rw [getD_lt S hi]
    refine ⟨a, _, c, e1, e2, fun L hL => ?_⟩
    rw [hL] at e3
    rw [hL]
    exact ⟨rfl, e3.2.1.1⟩
  have HC := Lib.hid hcc2
  have HU := Lib.hid (And.intro hu h60)
  have hpg : pgB kd id S = sealB (layB kd id S S.length) := rfl
  have HP := Lib.hid hpg
  obtain ⟨n, hn⟩ : ∃ n, n = S.length := ⟨_, rfl⟩
  have HN := Lib.hid hn
  rw [← hn] at hcap h60 had p3
  have k1 : IntKind.u8.wrap (kd : Int) = (kd : Int) := by rw [wraps_u8']; omega
  have k2 : (kd : Int) % 256 = (kd : Int) := by omega
  have k3 : IntKind.u8.wrap (n : Int) = (n : Int) := by rw [wraps_u8']; omega
  have k4 : (n : Int) % 256 = (n : Int) := by omega
  have k5 : IntKind.u32.wrap (id : Int) = (id : Int) := by rw [wrap_u32]; omega
  have k6 : (id : Int) % 4294967296 = (id : Int) := by omega
  have hb2 : [UInt8.ofNat kd, UInt8.ofNat S.length].map bv = [.int .u8 (kd : Int), .int .u8 (n : Int)] := by
    rw [← hn]
    show [bv _, bv _] = _
    rw [byte_eq (by omega), byte_eq (by omega)]
  have HB2 := Lib.hid hb2
  have hs6 : ∀ (g : Nat) (w0 : World), (Instr.slice 35 (.slice (some ⟨g, 0, none⟩) 6 512) none (some (.int .i64 512)) none).run Tryd.prog w0 = .ok (.slice (some ⟨g, 0, none⟩) 512 512) w0 := fun g w0 => by
    have h := run_to (ad := some ⟨g, 0, none⟩) (n := 6) (cap := 512) (h := 512) (Nat.le_refl _) w0
    exact h
  clear h hcc hcc2 hu hpg hn M2 hF hb2
  have H1 := Lib.hid A1
  clear A1
  go_enter Tryd.func22, Tryd.ntmps22
  go_wp2_with fail
  go_at_call 55
  refine (H1.out _ (by go_grown)).mono ?_
  rintro e w1 ⟨rfl, hw1⟩
  have G1 : Gr W w1 := hw1
  have p0' := cell_gr G1 p0
  have p1' := cell_gr G1 p1
  have p2' := cell_gr G1 p2
  have p3' := cell_gr G1 p3
  have HP3 := Lib.hid p3
  have sB := World.block_lt_of_cell? _ _ p0'
  clear hw1 p0 p1 p2 p3 f3 H1
  go_upto_region 3 with fail
  go_cut [3] from 8 to 81 (fun v wx => ∃ g, v = .slice (some ⟨g, 0, none⟩) 2 512 ∧ w1.heap.size ≤ g ∧ Hid (Full wx g 512 (splice (List.replicate 512 0) 0 [UInt8.ofNat kd, UInt8.ofNat S.length])) ∧ Gr w1 wx)
  case first =>
    have FA : Hid (Full ((w1.alloc o512).alloc (.cells #[.int .u8 kd, .int .u8 n] 5)).drew w1.heap.size 512 (List.replicate 512 0)) := Lib.hid (full_gr (HM.out w1) (((Below.refl _ _).alloc (Nat.le_refl _) _).drew))
    have FB : Hid (Full ((w1.alloc (.cells #[.int .u8 kd, .int .u8 n] 5)).alloc o512).drew (w1.heap.size + 1) 512 (List.replicate 512 0)) := Lib.hid (by
      have h := HM.out (w1.alloc (.cells #[.int .u8 kd, .int .u8 n] 5))
      rw [show (w1.alloc (.cells #[.int .u8 kd, .int .u8 n] 5)).heap.size = w1.heap.size + 1 by simp] at h
      exact full_gr h (Below.refl _ _).drew)
    have NA : Hid (∀ j u, ([UInt8.ofNat kd, UInt8.ofNat S.length].map bv)[j]? = some u → ((w1.alloc o512).alloc (.cells #[.int .u8 kd, .int .u8 n] 5)).drew.cell? ((⟨w1.heap.size + 1, 0, none⟩ : Addr).add j) = some u) := Lib.hid (by
      rw [HB2.out]
      have h := cells_new (w1.alloc o512) #[.int .u8 kd, .int .u8 n] 5 _ rfl
      rw [show (w1.alloc o512).heap.size = w1.heap.size + 1 by simp] at h
      exact fun j u hu => h j u hu)
    have NB : Hid (∀ j u, ([UInt8.ofNat kd, UInt8.ofNat S.length].map bv)[j]? = some u → ((w1.alloc (.cells #[.int .u8 kd, .int .u8 n] 5)).alloc o512).drew.cell? ((⟨w1.heap.size, 0, none⟩ : Addr).add j) = some u) := Lib.hid (by
      rw [HB2.out]
      exact fun j u hu => cell_gr (((Below.refl _ _).alloc (Nat.le_refl _) _).drew) (cells_new w1 #[.int .u8 kd, .int .u8 n] 5 _ rfl j u hu))
    have GA : Hid (Gr w1 ((w1.alloc o512).alloc (.cells #[.int .u8 kd, .int .u8 n] 5)).drew) := Lib.hid ((((Below.refl _ _).alloc (Nat.le_refl _) _).alloc (by simp) _).drew)
    have GB : Hid (Gr w1 ((w1.alloc (.cells #[.int .u8 kd, .int .u8 n] 5)).alloc o512).drew) := Lib.hid ((((Below.refl _ _).alloc (Nat.le_refl _) _).alloc (by simp) _).drew)
    go_region_law (first | (refine step_app_full rfl (.tmp 10) (.tmp 22) rfl i0 HI.out.1 HI.out.2.2.1 w1.heap.size 512 0 (List.replicate 512 0) [UInt8.ofNat kd, UInt8.ofNat S.length] (by simp [Act.eval]) FA.out ⟨w1.heap.size + 1, 0, none⟩ 2 2 (by simp [Act.eval]) rfl NA.out (by omega) ?_; intro wz Fz Kz; have HZ := Lib.hid (And.intro (Nat.le_refl w1.heap.size) (And.intro Fz (Kx.gr Kz GA.out (fun k hk => by rw [hk]; exact Nat.le_refl _)))); clear Fz Kz) | (refine step_app_full rfl (.tmp 10) (.tmp 22) rfl i0 HI.out.1 HI.out.2.2.1 (w1.heap.size + 1) 512 0 (List.replicate 512 0) [UInt8.ofNat kd, UInt8.ofNat S.length] (by simp [Act.eval]) FB.out ⟨w1.heap.size, 0, none⟩ 2 2 (by simp [Act.eval]) rfl NB.out (by omega) ?_; intro wz Fz Kz; have HZ := Lib.hid (And.intro (Nat.le_succ w1.heap.size) (And.intro Fz (Kx.gr Kz GB.out (fun k hk => by rw [hk]; exact Nat.le_succ _)))); clear Fz Kz))
    all_goals (go_wp2_with fail; go_meet; exact ⟨_, rfl, HZ.out.1, Lib.hid HZ.out.2.1, HZ.out.2.2⟩)
  case rest =>
    obtain ⟨g, rfl, hg0, HF0, G2⟩ := hcut
    obtain ⟨w2, rfl⟩ : ∃ x, x = wc := ⟨wc, rfl⟩
    have p2'' := cell_gr G2 p2'
    have p3'' := cell_gr G2 p3'
    have p0'' := cell_gr G2 p0'
    have G12 : Gr W w2 := Gr.trans G1 G2
    have hgW : W.heap.size ≤ g := Nat.le_trans G1.size hg0
    have AW : Calls Tryd.prog 56 #[.slice (some ⟨g, 0, none⟩) 2 512, .int .u32 id] w2 fun e w' => e = .returned (.slice (some ⟨g, 0, none⟩) 6 512) ∧ Hid (Full w' g 512 (layB kd id S 0)) ∧ Gr W w' ∧ Gr w1 w' := by
      refine (c_AppendWordF g 512 2 id (by omega) (by omega) (by omega) w2 HF0.out).mono ?_
      rintro e w' ⟨rfl, hF, hK⟩
      exact ⟨rfl, Lib.hid hF, Kx.gr hK G12 (fun k hk => by rw [hk]; exact hgW), Kx.gr hK G2 (fun k hk => by rw [hk]; exact hg0)⟩
    have HAW := Lib.hid AW
    clear AW HF0 p0' p1' p2' p3'
    go_wp2_with fail
    go_at_call 56
    refine (HAW.out).mono ?_
    rintro e w3 ⟨rfl, HF3, G3, G13⟩
    have q3 := hs6 g
    have p3x := cell_gr G3 HP3.out
    clear HAW G12 G2
    go_wp2_with fail
    go_loopg [4, 38] n (fun j x y wr => ∃ i : Nat, x = .int .i64 (endS S i : Nat) ∧ y = .int .i64 i ∧ i ≤ n ∧ j = n - i ∧ Hid (Full wr g 512 (layB kd id S i)) ∧ Gr W wr)
    case atStart => exact ⟨0, by rfl, rfl, by omega, by omega, HF3, G3⟩
    case round =>
      obtain ⟨i, rfl, rfl, hi, hj, HF, hg⟩ := hrel
      by_cases hin : i < n
      · have ti : decide ((i : Int) < (n : Int)) = true := decide_eq_true (by omega)
        have ti2 : decide (i < n) = true := decide_eq_true hin
        have ti3 : (i : Int) < (n : Int) := by omega
        have ti4 : (i : Int) < (cap : Int) := by omega
        obtain rfl := had (by omega)
        obtain ⟨a, z, c, k0, kv, kS⟩ := HC.out i (by rw [← HN.out]; exact hin)
        have q0 := cell_gr hg k0
        have q1 := cell_gr hg kv
        have sD := World.block_lt_of_cell? _ _ q0
        clear k0 kv
        cases hs : S.getD i none with
        | none =>
          rw [hs] at q0
          have HE := Lib.hid (And.intro (endS_none hs) (layB_none (kd := kd) (id := id) hs))
          clear kS hs
          go_wp2_with fail
          go_roundg (n - (i + 1))
          case measure => omega
          case rel => exact ⟨i + 1, by rw [HE.out.1], by go_num, by omega, by omega, Lib.hid (by rw [HE.out.2]; exact full_gr HF.out (by go_grown)), by have gs := hg.size; go_grown⟩
        | some L =>
          rw [hs] at q0
          obtain ⟨rfl, hRL⟩ := kS L hs
          obtain ⟨ea, hea⟩ : ∃ x, x = endS S i := ⟨_, rfl⟩
          obtain ⟨eb, heb⟩ : ∃ x, x = endS S (i + 1) := ⟨_, rfl⟩
          obtain ⟨A, hA⟩ : ∃ x, x = 16 + 4 * i := ⟨_, rfl⟩
          obtain ⟨A2, hA2⟩ : ∃ x, x = 18 + 4 * i := ⟨_, rfl⟩
          obtain ⟨l1, hl1⟩ : ∃ x, x = L.length + 1 := ⟨_, rfl⟩
          obtain ⟨f1, f2, f3, f4, f5, f6, f7, f8, f9, f10, f11, f12, f13⟩ := end_facts HU.out.1 (by rw [← HN.out]; exact hin) HU.out.2 hs hea heb hA hA2 hl1
          obtain ⟨off, hoff, hsl⟩ := full_tail HF.out f12 (by decide)
          have HE := Lib.hid (And.intro hea (And.intro heb (And.intro (layB_some (kd := kd) (id := id) hs) (And.intro (row_gr hRL hg) hoff))))
          rw [← hea]
          clear kS hs hRL hea heb hoff
          obtain ⟨b1, b2, b3, b4, b5, b6, b7, b8, b9, b10, b11, b12, b13⟩ := end_bounds (i := i) (Nat.lt_of_lt_of_le hin h60) f11 0
          rw [← hA] at b1 b3 b8 b10
          rw [← hA2] at b2 b4 b9 b11
          rw [← hl1] at b6
          have HAA := Lib.hid (And.intro hA (And.intro hA2 hl1))
          have hl14 := (full_from HF.out b1 (by decide)).1
          have hl15 := (full_from HF.out b2 (by decide)).1
          clear hA hA2 hl1
          go_upto_region 12 with fail
          have v0 : (wr.alloc (.cells #[.bool true, .slice a L.length c] 92)).cell? ⟨wr.heap.size, 0, none⟩ = some (.bool true) := by go_simp
          have v1 : (wr.alloc (.cells #[.bool true, .slice a L.length c] 92)).cell? ⟨wr.heap.size, 1, none⟩ = some (.slice a L.length c) := by go_simp
          have hrv : Gr wr (wr.alloc (.cells #[.bool true, .slice a L.length c] 92)) := (Below.refl _ _).alloc (Nat.le_refl _) _
          have gV : g < wr.heap.size := (full_cell HF.out (show 0 < 512 by decide)).2.2
          generalize wr.alloc (.cells #[.bool true, .slice a L.length c] 92) = wv at v0 v1 hrv ⊢
          generalize wr.heap.size = V at v0 v1 gV ⊢
          have cwv_0_0 := v0
          have cwv_0_1 := v1
          have zwv_0 : V < wv.heap.size := World.block_lt_of_cell? _ _ cwv_0_0
          have gwv : Gr W wv := Gr.trans hg hrv
          have FV := Lib.hid (full_gr HF.out hrv)
          have RV := Lib.hid (row_gr HE.out.2.2.2.1 hrv)
          clear v0 v1
          go_wp2_with fail
          try simp only [List.append]
          refine Oe.wp_region_ord (R := Kx (fun k => k = g)) [(0, false), (1, false), (2, false), (3, false), (4, false), (5, true)] (by kernel_rfl) (by kernel_rfl) ?_
          intro wa hwa KQ hKQ
          have hhwa := Kx.of_gr (S := (fun k => k = g)) hwa
          have cwa_0_0 : wa.cell? ⟨V, 0, none⟩ = some (.bool true) := cell_kx hhwa (by show ¬ (V = g); omega) (by go_simp)
          have cwa_0_1 : wa.cell? ⟨V, 1, none⟩ = some (.slice a L.length c) := cell_kx hhwa (by show ¬ (V = g); omega) (by go_simp)
          have zwa_0 : V < wa.heap.size := World.block_lt_of_cell? _ _ cwa_0_0
          have gwa : Gr W wa := Kx.gr hhwa (by have gg := gwv; have gs := gg.size; go_grown) (fun k hk => by have hk2 : k = g := hk; omega)
          have swa := hhwa.size
          clear gwv
          clear hhwa
          repeat (first | (refine Oe.wpO_skip (by simp only [List.getElem?_toArray, List.getElem?_cons_succ, List.getElem?_cons_zero] <;> rfl) rfl ?_; simp only [Act.put, List.setIfInBounds_toArray, List.set_cons_zero, List.set_cons_succ]) | (refine Oe.wpO_pure (by simp only [List.getElem?_toArray, List.getElem?_cons_succ, List.getElem?_cons_zero] <;> rfl) rfl ?_; apply Exists.intro; refine ⟨?_, ?_⟩; (· intro wx gx; have cx_0_0 : wx.cell? ⟨V, 0, none⟩ = some (.bool true) := cell_kx gx (by show ¬ (V = g); omega) cwa_0_0; have cx_0_1 : wx.cell? ⟨V, 1, none⟩ = some (.slice a L.length c) := cell_kx gx (by show ¬ (V = g); omega) cwa_0_1; have zx_0 : V < wx.heap.size := World.block_lt_of_cell? _ _ cx_0_0; clear gx; all_goals (apply Oe.pAt_of_quiet; intro K hK; go_big_quiet_op; first | exact hK _ rfl | (apply Exists.intro; refine ⟨fun _ => ?_, ?_⟩; (· fail); exact hK _ rfl))); try simp only [Act.put, List.setIfInBounds_toArray, List.set_cons_zero, List.set_cons_succ]))
          have FA := Lib.hid (full_gr FV.out hwa)
          have RA := Lib.hid (row_gr RV.out hwa)
          refine Oe.wpO_call (by simp only [List.getElem?_toArray, List.getElem?_cons_succ, List.getElem?_cons_zero] <;> rfl) rfl ?_
          intro QS hQS
          refine (wpList_copy_full rfl (.tmp 53) (.tmp 55) rfl g 512 off eb (512 - eb) (512 - eb) (layB kd id S i) L (.slice a L.length c) FA.out rfl rfl RA.out b12 (fun h => HE.out.2.2.2.2 (b13 h)) f11 ?_)
          intro ux wb Fb Kb
          have hhwb : Kx (fun k => k = g) wa wb := Kb
          refine hQS _ _ ⟨_, rfl, hhwb, ?_⟩
          clear hQS QS
          have cwb_0_0 : wb.cell? ⟨V, 0, none⟩ = some (.bool true) := cell_kx hhwb (by show ¬ (V = g); omega) (by go_simp)
          have cwb_0_1 : wb.cell? ⟨V, 1, none⟩ = some (.slice a L.length c) := cell_kx hhwb (by show ¬ (V = g); omega) (by go_simp)
          have zwb_0 : V < wb.heap.size := World.block_lt_of_cell? _ _ cwb_0_0
          have gwb : Gr W wb := Kx.gr hhwb gwa (fun k hk => by have hk2 : k = g := hk; omega)
          have swb := hhwb.size
          clear gwa zwa_0 cwa_0_0 cwa_0_1
          clear hhwb
          try simp only [Act.put, List.setIfInBounds_toArray, List.set_cons_zero, List.set_cons_succ]
          repeat (first | (refine Oe.wpO_skip (by simp only [List.getElem?_toArray, List.getElem?_cons_succ, List.getElem?_cons_zero] <;> rfl) rfl ?_; simp only [Act.put, List.setIfInBounds_toArray, List.set_cons_zero, List.set_cons_succ]) | (refine Oe.wpO_pure (by simp only [List.getElem?_toArray, List.getElem?_cons_succ, List.getElem?_cons_zero] <;> rfl) rfl ?_; apply Exists.intro; refine ⟨?_, ?_⟩; (· intro wx gx; have cx_0_0 : wx.cell? ⟨V, 0, none⟩ = some (.bool true) := cell_kx gx (by show ¬ (V = g); omega) cwb_0_0; have cx_0_1 : wx.cell? ⟨V, 1, none⟩ = some (.slice a L.length c) := cell_kx gx (by show ¬ (V = g); omega) cwb_0_1; have zx_0 : V < wx.heap.size := World.block_lt_of_cell? _ _ cx_0_0; clear gx; all_goals (apply Oe.pAt_of_quiet; intro K hK; go_big_quiet_op; first | exact hK _ rfl | (apply Exists.intro; refine ⟨fun _ => ?_, ?_⟩; (· fail); exact hK _ rfl))); try simp only [Act.put, List.setIfInBounds_toArray, List.set_cons_zero, List.set_cons_succ]))
          refine Oe.wpO_nil (hKQ _ _ ?_)
          clear hKQ KQ
          have gV2 : V ≠ g := by omega
          have hvb : Kx (fun k => k = g) wv wb := (Kx.of_gr hwa).trans Kb
          have FB := Lib.hid Fb
          have AP1 := Lib.hid (fun w (h : Full w g 512 (splice (layB kd id S i) eb L)) => c_putPair g 512 A (512 - A) (512 - A) eb b10 b3 (by decide) b5 w h)
          clear Fb Kb FA RA FV RV hvb hwa
          go_wp2_with fail
          go_at_call 57
          (with_reducible refine (AP1.out _ FB.out).mono ?_)
          rintro e w5 ⟨rfl, F5, K5⟩
          have FC := Lib.hid F5
          have cw5_0_0 : w5.cell? ⟨V, 0, none⟩ = some (.bool true) := cell_kx K5 gV2 cwb_0_0
          have cw5_0_1 : w5.cell? ⟨V, 1, none⟩ = some (.slice a L.length c) := cell_kx K5 gV2 cwb_0_1
          have zw5_0 : V < w5.heap.size := World.block_lt_of_cell? _ _ cw5_0_0
          have gw5 : Gr W w5 := Kx.gr K5 gwb (fun k hk => by rw [hk]; exact hgW)
          have AP2 := Lib.hid (fun w (h : Full w g 512 (splice (splice (layB kd id S i) eb L) A (pr eb))) => c_putPair g 512 A2 (512 - A2) (512 - A2) l1 b11 b4 (by decide) b6 w h)
          clear F5 K5 AP1 FB cwb_0_0 cwb_0_1 zwb_0 gwb swb
          go_wp2_with fail
          try simp only [List.append]
          refine Oe.wp_region_ord (R := Kx (fun k => k = g)) [(0, false), (1, false), (2, false), (3, false), (4, false), (5, false), (6, false), (7, false), (8, true)] (by kernel_rfl) (by kernel_rfl) ?_
          intro wx hwx KQ hKQ
          have hhwx := Kx.of_gr (S := (fun k => k = g)) hwx
          have cwx_0_0 : wx.cell? ⟨V, 0, none⟩ = some (.bool true) := cell_kx hhwx (by show ¬ (V = g); omega) (by go_simp)
          have cwx_0_1 : wx.cell? ⟨V, 1, none⟩ = some (.slice a L.length c) := cell_kx hhwx (by show ¬ (V = g); omega) (by go_simp)
          have zwx_0 : V < wx.heap.size := World.block_lt_of_cell? _ _ cwx_0_0
          have gwx : Gr W wx := Kx.gr hhwx (by have gg := gw5; have gs := gg.size; go_grown) (fun k hk => by have hk2 : k = g := hk; omega)
          have swx := hhwx.size
          clear gw5
          clear hhwx
          repeat (first | (refine Oe.wpO_skip (by simp only [List.getElem?_toArray, List.getElem?_cons_succ, List.getElem?_cons_zero] <;> rfl) rfl ?_; simp only [Act.put, List.setIfInBounds_toArray, List.set_cons_zero, List.set_cons_succ]) | (refine Oe.wpO_pure (by simp only [List.getElem?_toArray, List.getElem?_cons_succ, List.getElem?_cons_zero] <;> rfl) rfl ?_; apply Exists.intro; refine ⟨?_, ?_⟩; (· intro wx gx; have cx_0_0 : wx.cell? ⟨V, 0, none⟩ = some (.bool true) := cell_kx gx (by show ¬ (V = g); omega) cwx_0_0; have cx_0_1 : wx.cell? ⟨V, 1, none⟩ = some (.slice a L.length c) := cell_kx gx (by show ¬ (V = g); omega) cwx_0_1; have zx_0 : V < wx.heap.size := World.block_lt_of_cell? _ _ cx_0_0; clear gx; all_goals (apply Oe.pAt_of_quiet; intro K hK; go_big_quiet_op; first | exact hK _ rfl | (apply Exists.intro; refine ⟨fun _ => ?_, ?_⟩; (· fail); exact hK _ rfl))); try simp only [Act.put, List.setIfInBounds_toArray, List.set_cons_zero, List.set_cons_succ]))
          have FX := Lib.hid (full_gr FC.out hwx)
          refine Oe.wpO_call (by simp only [List.getElem?_toArray, List.getElem?_cons_succ, List.getElem?_cons_zero] <;> rfl) rfl ?_
          intro QS hQS
          go_wp2_with fail
          go_at_call 57
          (with_reducible refine ((AP2.out _ FX.out)).mono ?_)
          rintro e w6 ⟨rfl, F6, K6⟩
          have hhw6 : Kx (fun k => k = g) wx w6 := K6
          go_wp2_with fail
          first | (apply Exists.intro; refine ⟨?_, hhw6, ?_⟩; (· simp only [Act.put, List.setIfInBounds_toArray, List.set_cons_zero, List.set_cons_succ]; rfl)) | (refine ⟨hhw6, ?_⟩)
          have cw6_0_0 : w6.cell? ⟨V, 0, none⟩ = some (.bool true) := cell_kx hhw6 (by show ¬ (V = g); omega) (by go_simp)
          have cw6_0_1 : w6.cell? ⟨V, 1, none⟩ = some (.slice a L.length c) := cell_kx hhw6 (by show ¬ (V = g); omega) (by go_simp)
          have zw6_0 : V < w6.heap.size := World.block_lt_of_cell? _ _ cw6_0_0
          have gw6 : Gr W w6 := Kx.gr hhw6 gwx (fun k hk => by have hk2 : k = g := hk; omega)
          have sw6 := hhw6.size
          clear gwx zwx_0 cwx_0_0 cwx_0_1
          clear hhw6
          try simp only [Act.put, List.setIfInBounds_toArray, List.set_cons_zero, List.set_cons_succ]
          repeat (first | (refine Oe.wpO_skip (by simp only [List.getElem?_toArray, List.getElem?_cons_succ, List.getElem?_cons_zero] <;> rfl) rfl ?_; simp only [Act.put, List.setIfInBounds_toArray, List.set_cons_zero, List.set_cons_succ]) | (refine Oe.wpO_pure (by simp only [List.getElem?_toArray, List.getElem?_cons_succ, List.getElem?_cons_zero] <;> rfl) rfl ?_; apply Exists.intro; refine ⟨?_, ?_⟩; (· intro wx gx; have cx_0_0 : wx.cell? ⟨V, 0, none⟩ = some (.bool true) := cell_kx gx (by show ¬ (V = g); omega) cw6_0_0; have cx_0_1 : wx.cell? ⟨V, 1, none⟩ = some (.slice a L.length c) := cell_kx gx (by show ¬ (V = g); omega) cw6_0_1; have zx_0 : V < wx.heap.size := World.block_lt_of_cell? _ _ cx_0_0; clear gx; all_goals (apply Oe.pAt_of_quiet; intro K hK; go_big_quiet_op; first | exact hK _ rfl | (apply Exists.intro; refine ⟨fun _ => ?_, ?_⟩; (· fail); exact hK _ rfl))); try simp only [Act.put, List.setIfInBounds_toArray, List.set_cons_zero, List.set_cons_succ]))
          have FY := Lib.hid F6
          clear F6
          refine Oe.wpO_nil (hKQ _ _ ?_)
          clear hKQ KQ
          have HD : Hid (Full w6 g 512 (layB kd id S (i + 1))) := Lib.hid (by
            obtain ⟨e1, e2, e3, -, -⟩ := HE.out
            obtain ⟨a1, a2, a3⟩ := HAA.out
            rw [e3, ← e2, ← a1, ← a2, ← a3]
            exact FY.out)
          have HB6 := Lib.hid HE.out.2.1
          have G6 : Gr W w6 := gw6
          clear FX FY FC AP2 HE HAA
          go_wp2_with fail
          go_roundg (n - (i + 1))
          case measure => omega
          case rel => exact ⟨i + 1, by rw [← HB6.out], by go_num, by omega, by omega, HD, G6⟩
      · obtain rfl : i = n := by omega
        have ti : decide ((i : Int) < (i : Int)) = false := decide_eq_false (by omega)
        have ti3 : ¬ (i : Int) < (i : Int) := by omega
        have hl17 : ∀ w0, (Instr.slice 35 (.slice (some ⟨g, 0, none⟩) 512 512) (some (.int .i64 12)) none none).run Tryd.prog w0 = .ok (.slice (some ⟨g, 12, none⟩) 500 500) w0 := (full_from (k := 12) HF.out (by decide) (by decide)).1
        have hlen : (layB kd id S i).length = 512 := HF.out.1
        obtain ⟨M, hM⟩ : ∃ x, x = layB kd id S i := ⟨_, rfl⟩
        rw [← hM] at hlen HF
        have HMM := Lib.hid hM
        have AS := Lib.hid (fun w (h : Full w g 512 M) (gw : Gr W w) => c_Sum w (ft_gr HFT.out gw) (full_row h) (by rw [hlen]; decide))
        have hsl : Cr.sum M < 4294967296 := Cr.sum_lt _
        have hse : sealB M = splice M 12 (wd (Cr.sum M)) := rfl
        generalize Cr.sum M = sm at AS hsl hse
        have AAW := Lib.hid (fun w => c_AppendWord [] (.slice none 0 0) sm w.heap.size hsl w (by simp) (Nat.le_refl _) (own_nil _ _))
        have HSE := Lib.hid (And.intro hse hlen)
        clear hse hM hlen hsl
        go_upto_region 17 with fail
        have gwr := hg
        go_wp2_with fail
        try simp only [List.append]
        refine Oe.wp_region_ord (R := Kx (fun k => k = g)) [(0, false), (1, false), (2, false), (3, true), (4, true), (5, true)] (by kernel_rfl) (by kernel_rfl) ?_
        intro wa hwa KQ hKQ
        have hhwa := Kx.of_gr (S := (fun k => k = g)) hwa
        have gwa : Gr W wa := Kx.gr hhwa (by have gg := gwr; have gs := gg.size; go_grown) (fun k hk => by have hk2 : k = g := hk; omega)
        have swa := hhwa.size
        clear gwr
        clear hhwa
        repeat (first | (refine Oe.wpO_skip (by simp only [List.getElem?_toArray, List.getElem?_cons_succ, List.getElem?_cons_zero] <;> rfl) rfl ?_; simp only [Act.put, List.setIfInBounds_toArray, List.set_cons_zero, List.set_cons_succ]) | (refine Oe.wpO_pure (by simp only [List.getElem?_toArray, List.getElem?_cons_succ, List.getElem?_cons_zero] <;> rfl) rfl ?_; apply Exists.intro; refine ⟨?_, ?_⟩; (· intro wx gx; clear gx; all_goals (apply Oe.pAt_of_quiet; intro K hK; go_big_quiet_op; first | exact hK _ rfl | (apply Exists.intro; refine ⟨fun _ => ?_, ?_⟩; (· fail); exact hK _ rfl))); try simp only [Act.put, List.setIfInBounds_toArray, List.set_cons_zero, List.set_cons_succ]))
        have FA := Lib.hid (full_gr HF.out hwa)
        refine Oe.wpO_call (by simp only [List.getElem?_toArray, List.getElem?_cons_succ, List.getElem?_cons_zero] <;> rfl) rfl ?_
        intro QS hQS
        go_wp2_with fail
        go_at_call 58
        (with_reducible refine ((AS.out _ FA.out gwa)).mono ?_)
        rintro e wb ⟨rfl, hwb⟩
        have hhwb : Kx (fun k => k = g) wa wb := Kx.of_gr hwb
        go_wp2_with fail
        first | (apply Exists.intro; refine ⟨?_, hhwb, ?_⟩; (· simp only [Act.put, List.setIfInBounds_toArray, List.set_cons_zero, List.set_cons_succ]; rfl)) | (refine ⟨hhwb, ?_⟩)
        have gwb : Gr W wb := Kx.gr hhwb gwa (fun k hk => by have hk2 : k = g := hk; omega)
        have swb := hhwb.size
        clear gwa
        clear hhwb
        try simp only [Act.put, List.setIfInBounds_toArray, List.set_cons_zero, List.set_cons_succ]
        repeat (first | (refine Oe.wpO_skip (by simp only [List.getElem?_toArray, List.getElem?_cons_succ, List.getElem?_cons_zero] <;> rfl) rfl ?_; simp only [Act.put, List.setIfInBounds_toArray, List.set_cons_zero, List.set_cons_succ]) | (refine Oe.wpO_pure (by simp only [List.getElem?_toArray, List.getElem?_cons_succ, List.getElem?_cons_zero] <;> rfl) rfl ?_; apply Exists.intro; refine ⟨?_, ?_⟩; (· intro wx gx; clear gx; all_goals (apply Oe.pAt_of_quiet; intro K hK; go_big_quiet_op; first | exact hK _ rfl | (apply Exists.intro; refine ⟨fun _ => ?_, ?_⟩; (· fail); exact hK _ rfl))); try simp only [Act.put, List.setIfInBounds_toArray, List.set_cons_zero, List.set_cons_succ]))
        have FB := Lib.hid (full_gr FA.out hwb)
        refine Oe.wpO_call (by simp only [List.getElem?_toArray, List.getElem?_cons_succ, List.getElem?_cons_zero] <;> rfl) rfl ?_
        intro QS hQS
        go_wp2_with fail
        go_at_call 56
        (with_reducible refine ((AAW.out _)).mono ?_)
        rintro e wq ⟨b', rfl, ob, gb⟩
        have hhwq : Kx (fun k => k = g) wb wq := Kx.of_gr (gb.gr (Below.refl _ _) (fun k hk => by cases hk))
        go_wp2_with fail
        first | (apply Exists.intro; refine ⟨?_, hhwq, ?_⟩; (· simp only [Act.put, List.setIfInBounds_toArray, List.set_cons_zero, List.set_cons_succ]; rfl)) | (refine ⟨hhwq, ?_⟩)
        have gwq : Gr W wq := Kx.gr hhwq gwb (fun k hk => by have hk2 : k = g := hk; omega)
        have swq := hhwq.size
        clear gwb
        clear hhwq
        try simp only [Act.put, List.setIfInBounds_toArray, List.set_cons_zero, List.set_cons_succ]
        repeat (first | (refine Oe.wpO_skip (by simp only [List.getElem?_toArray, List.getElem?_cons_succ, List.getElem?_cons_zero] <;> rfl) rfl ?_; simp only [Act.put, List.setIfInBounds_toArray, List.set_cons_zero, List.set_cons_succ]) | (refine Oe.wpO_pure (by simp only [List.getElem?_toArray, List.getElem?_cons_succ, List.getElem?_cons_zero] <;> rfl) rfl ?_; apply Exists.intro; refine ⟨?_, ?_⟩; (· intro wx gx; clear gx; all_goals (apply Oe.pAt_of_quiet; intro K hK; go_big_quiet_op; first | exact hK _ rfl | (apply Exists.intro; refine ⟨fun _ => ?_, ?_⟩; (· fail); exact hK _ rfl))); try simp only [Act.put, List.setIfInBounds_toArray, List.set_cons_zero, List.set_cons_succ]))
        have RD := Lib.hid (row_own ob)
        have FD := Lib.hid (full_kx FB.out (kx_grown gb) (fun h => by cases h))
        clear ob gb FB FA
        refine Oe.wpO_call (by simp only [List.getElem?_toArray, List.getElem?_cons_succ, List.getElem?_cons_zero] <;> rfl) rfl ?_
        intro QS hQS
        refine (wpList_copy_full rfl (.tmp 76) (.tmp 79) rfl g 512 12 12 500 500 M ([] ++ wd sm) b' FD.out rfl rfl RD.out (by rw [List.nil_append, wd_len4]; decide) (fun h => rfl) (by rw [List.nil_append, wd_len4]; decide) ?_)
        intro ux we Fb Kb
        have hhwe : Kx (fun k => k = g) wq we := Kb
        refine hQS _ _ ⟨_, rfl, hhwe, ?_⟩
        clear hQS QS
        have gwe : Gr W we := Kx.gr hhwe gwq (fun k hk => by have hk2 : k = g := hk; omega)
        have swe := hhwe.size
        clear gwq
        clear hhwe
        try simp only [Act.put, List.setIfInBounds_toArray, List.set_cons_zero, List.set_cons_succ]
        repeat (first | (refine Oe.wpO_skip (by simp only [List.getElem?_toArray, List.getElem?_cons_succ, List.getElem?_cons_zero] <;> rfl) rfl ?_; simp only [Act.put, List.setIfInBounds_toArray, List.set_cons_zero, List.set_cons_succ]) | (refine Oe.wpO_pure (by simp only [List.getElem?_toArray, List.getElem?_cons_succ, List.getElem?_cons_zero] <;> rfl) rfl ?_; apply Exists.intro; refine ⟨?_, ?_⟩; (· intro wx gx; clear gx; all_goals (apply Oe.pAt_of_quiet; intro K hK; go_big_quiet_op; first | exact hK _ rfl | (apply Exists.intro; refine ⟨fun _ => ?_, ?_⟩; (· fail); exact hK _ rfl))); try simp only [Act.put, List.setIfInBounds_toArray, List.set_cons_zero, List.set_cons_succ]))
        have FE := Lib.hid Fb
        clear Fb Kb
        refine Oe.wpO_nil (hKQ _ _ ?_)
        clear hKQ KQ
        go_wp2_with fail
        go_ret
        exact ⟨g, rfl, hgW, by rw [HP.out, ← HN.out, ← HMM.out, HSE.out.1]; exact FE.out, gwe⟩
end
end Go.Proofs.YtilijbplfobneaaDoor
