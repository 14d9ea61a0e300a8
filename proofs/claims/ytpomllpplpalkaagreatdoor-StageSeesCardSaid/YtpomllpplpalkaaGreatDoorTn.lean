/- the document's map: Apply -/
import Derived.Test.YtpomllpplpalkaaGreatDoorTm
namespace Go.Proofs.YtpomllpplpalkaaGreatDoor
set_option linter.unusedVariables false
set_option linter.unusedSimpArgs false
open Go.ChangeShapes Go.WideShapes Go.ChangeAt Go.RowKit Go.Maps

structure AccR (L : List MChg) (i : Nat) (kd : Int) (c : MChg) (dn : Bool) (acc : List MChg) : Prop where
  srt : acc.Pairwise (fun a b => a.id < b.id)
  mem : ∀ y, y ∈ acc ↔ ((∃ j, j < i ∧ y = L.getD j MChg.nul ∧ y.id ≠ c.id) ∨ (kd = 1 ∧ dn = true ∧ y = c))
  two : kd = 2 → dn = true
  lo : dn = false → ∀ j, j < i → (L.getD j MChg.nul).id < c.id
  hi : kd = 1 → dn = true → ∀ j, i ≤ j → j < L.length → c.id < (L.getD j MChg.nul).id
  len : acc.length ≤ i + (if kd = 1 ∧ dn = true then 1 else 0)
theorem accR_lt {L : List MChg} {i : Nat} {kd : Int} {c : MChg} {dn : Bool} {acc : List MChg} (hs : L.Pairwise (fun a c => a.id < c.id)) (h : AccR L i kd c dn acc) {y : MChg} (hy : y ∈ acc) {j : Nat} (h1 : i ≤ j) (h2 : j < L.length) : y.id < (L.getD j MChg.nul).id := by
  rcases (h.mem y).1 hy with ⟨q, hq, rfl, -⟩ | ⟨a, b, rfl⟩
  · exact srt_get hs (by omega) h2
  · exact h.hi a b j h1 h2
theorem pw_snoc {acc : List MChg} {y : MChg} (h : acc.Pairwise (fun a b => a.id < b.id)) (hy : ∀ x, x ∈ acc → x.id < y.id) : (acc ++ [y]).Pairwise (fun a b => a.id < b.id) :=
  List.pairwise_append.2 ⟨h, List.pairwise_singleton _ _, fun a ha b hb => by
    obtain rfl := List.mem_singleton.1 hb
    exact hy a ha⟩
theorem accR_skip {L : List MChg} {i : Nat} {kd : Int} {c : MChg} {dn : Bool} {acc : List MChg} (h : AccR L i kd c dn acc) (hd : dn = true) (e : (L.getD i MChg.nul).id = c.id) : AccR L (i + 1) kd c dn acc := by
  refine ⟨h.srt, fun y => (h.mem y).trans ?_, h.two, fun e2 => absurd (hd.symm.trans e2) (by decide), fun a b j h1 h2 => h.hi a b j (by omega) h2, by have := h.len; omega⟩
  constructor
  · rintro (⟨j, hj, e1, e2⟩ | h2)
    · exact Or.inl ⟨j, by omega, e1, e2⟩
    · exact Or.inr h2
  · rintro (⟨j, hj, e1, e2⟩ | h2)
    · by_cases q : j = i
      · subst q; rw [e1] at e2; exact absurd e e2
      · exact Or.inl ⟨j, by omega, e1, e2⟩
    · exact Or.inr h2
theorem accR_add {L : List MChg} {i : Nat} {kd : Int} {c : MChg} {dn : Bool} {acc : List MChg} (hs : L.Pairwise (fun a c => a.id < c.id)) (hi : i < L.length) (h : AccR L i kd c dn acc) (e : (L.getD i MChg.nul).id ≠ c.id) (hd : dn = false → ¬ c.id < (L.getD i MChg.nul).id) : AccR L (i + 1) kd c dn (acc ++ [L.getD i MChg.nul]) := by
  refine ⟨pw_snoc h.srt (fun x hx => accR_lt hs h hx (Nat.le_refl _) hi), fun y => ?_, h.two, fun e2 j hj => ?_, fun a b j h1 h2 => h.hi a b j (by omega) h2, by rw [List.length_append]; have := h.len; show _ + 1 ≤ _; omega⟩
  · rw [List.mem_append, h.mem y, List.mem_singleton]
    constructor
    · rintro ((⟨j, hj, e1, e2⟩ | h2) | rfl)
      · exact Or.inl ⟨j, by omega, e1, e2⟩
      · exact Or.inr h2
      · exact Or.inl ⟨i, by omega, rfl, e⟩
    · rintro (⟨j, hj, e1, e2⟩ | h2)
      · by_cases q : j = i
        · subst q; exact Or.inr e1
        · exact Or.inl (Or.inl ⟨j, by omega, e1, e2⟩)
      · exact Or.inl (Or.inr h2)
  · by_cases q : j = i
    · have := hd e2; rw [q]; omega
    · exact h.lo e2 j (by omega)
theorem accR_ins {L : List MChg} {i : Nat} {c : MChg} {acc : List MChg} (hs : L.Pairwise (fun a c => a.id < c.id)) (h : AccR L i 1 c false acc) (e : i < L.length → c.id < (L.getD i MChg.nul).id) : AccR L i 1 c true (acc ++ [c]) := by
  refine ⟨pw_snoc h.srt (fun x hx => ?_), fun y => ?_, fun _ => rfl, fun e2 => (by cases e2), fun _ _ j h1 h2 => ?_, by rw [List.length_append, if_pos ⟨rfl, rfl⟩]; have := h.len; rw [if_neg (by decide)] at this; show _ + 1 ≤ _; omega⟩
  · rcases (h.mem x).1 hx with ⟨q, hq, rfl, -⟩ | ⟨_, b, _⟩
    · exact h.lo rfl q hq
    · cases b
  · rw [List.mem_append, h.mem y, List.mem_singleton]
    constructor
    · rintro ((h1 | ⟨_, b, _⟩) | rfl)
      · exact Or.inl h1
      · cases b
      · exact Or.inr ⟨rfl, rfl, rfl⟩
    · rintro (h1 | ⟨_, _, rfl⟩)
      · exact Or.inl (Or.inl h1)
      · exact Or.inr rfl
  · by_cases q : j = i
    · subst q; exact e h2
    · have := srt_get hs (show i < j by omega) h2
      have := e (by omega)
      omega
theorem accR_put {σ : Int → Option MO} {L : List MChg} {c : MChg} {acc : List MChg} (hr : RRel σ L) (hi : i64R c.id) (hs : σ c.id = none) (h : AccR L L.length 1 c true acc) : RRel (updS σ c.id (some ⟨c.k, c.n, c.X, c.Y⟩)) acc := by
  refine ⟨h.srt, fun y hy => ?_, fun z hz hzs => ?_⟩
  · rcases (h.mem y).1 hy with ⟨j, hj, rfl, e⟩ | ⟨_, _, rfl⟩
    · obtain ⟨a, b⟩ := hr.val _ (getD_mem hj)
      exact ⟨a, (if_neg e).trans b⟩
    · exact ⟨hi, if_pos rfl⟩
  · by_cases e : z = c.id
    · exact ⟨c, (h.mem c).2 (Or.inr ⟨rfl, rfl, rfl⟩), e.symm⟩
    · rw [show updS σ c.id (some ⟨c.k, c.n, c.X, c.Y⟩) z = σ z from if_neg e] at hzs
      obtain ⟨y, hy, rfl⟩ := hr.all z hz hzs
      obtain ⟨j, hj, rfl⟩ := mem_getD hy
      exact ⟨_, (h.mem _).2 (Or.inl ⟨j, hj, rfl, e⟩), rfl⟩
theorem accR_del {σ : Int → Option MO} {L : List MChg} {c : MChg} {acc : List MChg} (hr : RRel σ L) (h : AccR L L.length 2 c true acc) : RRel (updS σ c.id none) acc := by
  refine ⟨h.srt, fun y hy => ?_, fun z hz hzs => ?_⟩
  · rcases (h.mem y).1 hy with ⟨j, hj, rfl, e⟩ | ⟨a, _, _⟩
    · obtain ⟨a, b⟩ := hr.val _ (getD_mem hj)
      exact ⟨a, (if_neg e).trans b⟩
    · omega
  · by_cases e : z = c.id
    · rw [show updS σ c.id none z = none from if_pos e] at hzs; cases hzs
    · rw [show updS σ c.id none z = σ z from if_neg e] at hzs
      obtain ⟨y, hy, rfl⟩ := hr.all z hz hzs
      obtain ⟨j, hj, rfl⟩ := mem_getD hy
      exact ⟨_, (h.mem _).2 (Or.inl ⟨j, hj, rfl, e⟩), rfl⟩
def RmTo (P W : World) (base X : Nat) (σ : Int → Option MO) (L : List MChg) (c : MChg) (e : Ending) (w' : World) : Prop := ∃ L', e = .returned (.int .i64 (apN σ c.kd c.id c.k c.n c.X c.Y : Nat)) ∧ RmAt P w' base X (apS σ c.kd c.id c.k c.n c.X c.Y) L' ∧ L'.length ≤ L.length + 1 ∧ Kx (fun j => j = X) W w'
theorem rmTo_no {P W w' : World} {base X : Nat} {σ : Int → Option MO} {L : List MChg} {c : MChg} (h : RmAt P W base X σ L) (g : Gr W w') {q : Nat} (hq : apN σ c.kd c.id c.k c.n c.X c.Y = q) (h0 : q ≠ 0) : RmTo P W base X σ L c (.returned (.int .i64 (q : Nat))) w' := by
  refine ⟨L, by rw [hq], ?_, Nat.le_succ _, kx_gr g⟩
  rw [show apS σ c.kd c.id c.k c.n c.X c.Y = σ from if_pos (by rw [hq]; exact h0)]
  exact rmAt_gr h g
set_option maxHeartbeats 8000000 in
set_option maxRecDepth 100000 in
theorem rm_Apply {P W : World} {base X : Nat} {σ : Int → Option MO} {L : List MChg} {kd id kk : Int} {n : Nat} {Xf Yf : Nat → Int} {v : Value} (hi : i64R id) (hL : L.length ≤ 100000) (hb : base ≤ W.heap.size) (h : RmAt P W base X σ L) (hp : Pts P v n Xf Yf) : Calls Tryz.prog 45 #[.pointer (some ⟨X, 0, none⟩), .agg #[.int .i64 kd, .int .i64 id, .int .i64 kk, v]] W fun e w' => RmTo P W base X σ L ⟨kd, id, kk, v, n, Xf, Yf⟩ e w' := by
  obtain ⟨i0, hi0, hz0, hz1, hz2⟩ := info_parts (P := Tryz.prog) (e := 43) (z := .agg #[.int .i64 0, .int .i64 0, .slice none 0 0]) (size := 3) (bytes := 40) (by kernel_rfl)
  have HI := Lib.hid (And.intro hi0 (And.intro hz0 (And.intro hz1 hz2)))
  clear hi0 hz0 hz1 hz2
  have HH := Lib.hid h
  have HP := Lib.hid hp
  have HZ := Lib.hid hi
  have AC := Lib.hid (fun w (g : Gr W w) => c_CheckChange kd id kk w (pts_gr hp (Gr.trans h.gr g)))
  obtain ⟨ad, cap, D, c0, hcap, hD⟩ := rmAt_at h
  have HD := Lib.hid hD
  have zX := World.block_lt_of_cell? _ _ c0
  have hL9 : (L.length : Int) ≤ 100000 := by omega
  obtain ⟨row, hrow, -⟩ := h.row
  have HROW := Lib.hid hrow
  have f0 := Hm.frozen_of_heap hrow 0
  obtain ⟨vd, vc, _, _, rfl, -⟩ := hp
  clear h hD hi hrow
  go_enter Tryz.func45, Tryz.ntmps45
  go_wp2_with fail
  go_at_call 78
  refine (AC.out _ (by go_grown)).mono ?_
  rintro e w1 ⟨rfl, g1⟩
  have b0 : w1.cell? ⟨W.heap.size, 0, none⟩ = some (.int .i64 kd) := cell_gr g1 (by go_simp)
  have b1 : w1.cell? ⟨W.heap.size, 1, none⟩ = some (.int .i64 id) := cell_gr g1 (by go_simp)
  have b2 : w1.cell? ⟨W.heap.size, 2, none⟩ = some (.int .i64 kk) := cell_gr g1 (by go_simp)
  have b3 : w1.cell? ⟨W.heap.size, 3, none⟩ = some (.slice vd n vc) := cell_gr g1 (by go_simp)
  have zb := World.block_lt_of_cell? _ _ b0
  have G1 : Gr W w1 := Gr.trans (by go_grown) g1
  have x0 := cell_gr G1 c0
  have xf := frozen_gr G1 c0 f0
  have zX1 := World.block_lt_of_cell? _ _ x0
  have HG1 := Lib.hid G1
  have HX0 := Lib.hid (And.intro x0 xf)
  clear g1 AC c0 f0 zX
  obtain ⟨q, hq⟩ : ∃ q, q = chgC kd id kk n Xf Yf := ⟨_, rfl⟩
  rw [← hq]
  by_cases hc : q = 0
  · have hc' : chgC kd id kk n Xf Yf = 0 := by rw [← hq]; exact hc
    have HC := Lib.hid hc'
    subst hc
    clear hq
    have APL := Lib.hid (rm_place (z := id) (by omega) (rmAt_gr HH.out G1))
    clear G1
    have hkd := (chgC_ok hc').2.2
    clear hc'
    go_wp2_with fail
    go_at_call 76
    refine (APL.out).mono ?_
    rintro e w2 ⟨p, rfl, hpl, g2⟩
    obtain ⟨hpg, hpb, hpb2⟩ := placeR_ge HH.out.rel HZ.out hpl
    have d0 := cell_gr g2 b0
    have d1 := cell_gr g2 b1
    have d2 := cell_gr g2 b2
    have d3 := cell_gr g2 b3
    have y0 := cell_gr g2 x0
    have yf := frozen_gr g2 x0 xf
    have zd := World.block_lt_of_cell? _ _ d0
    have zy := World.block_lt_of_cell? _ _ y0
    have HG2 := Lib.hid g2
    have HPL := Lib.hid (And.intro hpl hpg)
    clear hpl hpg g2 x0 xf zb zX1 APL
    have hkk : kd = 1 ∨ kd = 2 := by rcases hkd with ⟨e, -⟩ | ⟨e, -⟩ <;> omega
    clear hkd
    by_cases hp0 : 0 ≤ p
    · have tp : decide ((0 : Int) ≤ p) = true := decide_eq_true hp0
      have tp2 : decide (p < (0 : Int)) = false := decide_eq_false (by omega)
      have hss : (σ id).isSome = true := by rw [← HPL.out.2]; exact tp
      have HSS := Lib.hid hss
      clear hss
      rcases hkk with rfl | rfl
      · clear b0 b1 b2 b3
        go_wp2_with fail
        go_ret
        exact rmTo_no (q := 6) (c := ⟨1, id, kk, .slice vd n vc, n, Xf, Yf⟩) HH.out (Gr.trans HG1.out HG2.out) (by show apN σ 1 id kk n Xf Yf = 6; unfold apN; rw [if_neg (fun h => h HC.out), if_pos rfl, if_pos HSS.out]) (by decide)
      · have hen : apN σ 2 id kk n Xf Yf = 0 := by unfold apN; rw [if_neg (fun h => h HC.out), if_neg (by decide), if_pos HSS.out]
        have hes : apS σ 2 id kk n Xf Yf = updS σ id none := by unfold apS; rw [hen, if_neg (by decide), if_neg (by decide)]
        have HEN := Lib.hid (And.intro hen hes)
        have HA0 : Hid (AccR L 0 2 ⟨2, id, kk, .slice vd n vc, n, Xf, Yf⟩ true []) := Lib.hid ⟨List.Pairwise.nil, fun y => ⟨fun h => (by cases h), fun h => (by rcases h with ⟨j, hj, -⟩ | ⟨h, -⟩; exact absurd hj (Nat.not_lt_zero _); omega)⟩, fun _ => rfl, fun h => (by cases h), fun h => (by omega), by decide⟩
        clear hen hes
        have HR0 := Lib.hid (World.ownsRow_nil w2 w1.heap.size 43 3)
        go_wp2_with fail
        go_loopg [7, 8, 9] L.length (fun m a d x wr => ∃ (i : Nat) (acc : List MChg), x = .int .i64 i ∧ d = .bool true ∧ i ≤ L.length ∧ m = L.length - i ∧ Hid (AccR L i 2 ⟨2, id, kk, .slice vd n vc, n, Xf, Yf⟩ true acc) ∧ Hid (wr.ownsRow w1.heap.size 43 3 a acc.length (itCs acc)) ∧ Hid (Gr w1 wr))
        case atStart => exact ⟨0, [], rfl, rfl, Nat.zero_le _, by omega, HA0, HR0, HG2⟩
        case round =>
          obtain ⟨i, acc, rfl, rfl, hi, hk, HA, HR, HG⟩ := hrel
          have e0 := cell_gr HG.out b0
          have e1 := cell_gr HG.out b1
          have e2 := cell_gr HG.out b2
          have e3 := cell_gr HG.out b3
          have r0 := cell_gr HG.out HX0.out.1
          have rf := frozen_gr HG.out HX0.out.1 HX0.out.2
          have ze := World.block_lt_of_cell? _ _ e0
          have zr := World.block_lt_of_cell? _ _ r0
          have hwr := HG.out.size
          have hal : acc.length ≤ i + 1 := by have := HA.out.len; split at this <;> omega
          clear d0 d1 d2 d3 y0 yf zd zy
          by_cases hlt : i < L.length
          · have ti : decide ((i : Int) < (L.length : Int)) = true := decide_eq_true (by omega)
            have ti2 : decide (i < L.length) = true := decide_eq_true hlt
            have ti3 : (i : Int) < (L.length : Int) := by omega
            have ti4 : (i : Int) < (cap : Int) := by omega
            have ti5 : (i : Int) ≤ 100000 := by omega
            have hmm2 : L.length - (i + 1) < gk := by omega
            obtain ⟨rfl, q0, q1, q2⟩ := HD.out i hlt
            have hpy := HH.out.pts _ (getD_mem hlt)
            have hpi := placeR_i HH.out.rel.srt HPL.out.1 hlt
            rcases ec : L.getD i MChg.nul with ⟨kdy, y, ky, vy, my, Xy, Yy⟩
            rw [ec] at q0 q1 q2 hpy hpi
            simp only at q0 q1 q2 hpy hpi
            obtain ⟨pad, pcap, _, _, rfl, _⟩ := hpy
            have HEC := Lib.hid ec
            have HQ := Lib.hid (And.intro (cell_gr HG1.out q0) (And.intro (cell_gr HG1.out q1) (cell_gr HG1.out q2)))
            have p0 := cell_gr HG.out HQ.out.1
            have p1 := cell_gr HG.out HQ.out.2.1
            have p2 := cell_gr HG.out HQ.out.2.2
            have zD := World.block_lt_of_cell? _ _ p0
            clear q0 q1 q2 ec
            have gwr := HG.out
            have HRa0 := HR
            by_cases hip : y = id
            · have hpe : p = (i : Int) := hpi.2 hip
              have HIP := Lib.hid hip
              subst hpe
              have tn : ((i : Int) != (i : Int)) = false := by simp
              clear hpi hip
              go_wp2_with fail
              refine wp_region_spread (by kernel_rfl) (by kernel_rfl) ?_
              try simp only [List.append]
              repeat (first | go_big_quiet_skip | (go_big_quiet_want; go_big_quiet_op; (first | go_big_quiet_on | (apply Exists.intro; refine ⟨fun _ => ?_, ?_⟩; (· fail); go_big_quiet_on))))
              refine wpQuiet_nil ?_
              intro wa hhwa
              have hwa := Hd.gr_of_spread hhwa
              have cwa_0_0 : wa.cell? ⟨W.heap.size, 0, none⟩ = some (.int .i64 2) := cell_gr hwa (by go_simp)
              have cwa_0_1 : wa.cell? ⟨W.heap.size, 1, none⟩ = some (.int .i64 id) := cell_gr hwa (by go_simp)
              have cwa_0_2 : wa.cell? ⟨W.heap.size, 2, none⟩ = some (.int .i64 kk) := cell_gr hwa (by go_simp)
              have cwa_0_3 : wa.cell? ⟨W.heap.size, 3, none⟩ = some (.slice vd n vc) := cell_gr hwa (by go_simp)
              have zwa_0 : W.heap.size < wa.heap.size := World.block_lt_of_cell? _ _ cwa_0_0
              have cwa_1_0 : wa.cell? ⟨X, 0, none⟩ = some (.slice (some ⟨D, 0, none⟩) L.length cap) := cell_gr hwa (by go_simp)
              have zwa_1 : X < wa.heap.size := World.block_lt_of_cell? _ _ cwa_1_0
              have cwa_2_0 : wa.cell? ⟨D, i * 3, none⟩ = some (.int .i64 y) := cell_gr hwa (by go_simp)
              have cwa_2_1 : wa.cell? ⟨D, i * 3 + 1, none⟩ = some (.int .i64 ky) := cell_gr hwa (by go_simp)
              have cwa_2_2 : wa.cell? ⟨D, i * 3 + 2, none⟩ = some (.slice pad my pcap) := cell_gr hwa (by go_simp)
              have zwa_2 : D < wa.heap.size := World.block_lt_of_cell? _ _ cwa_2_0
              have gwa : Gr w1 wa := Gr.trans (by have gg := gwr; have gs := gg.size; go_grown) hwa
              have Kwa := Lib.hid hwa
              clear hwa hhwa gwr
              have HGa := Lib.hid gwa
              have hwa := gwa.size
              go_wp2_with fail
              go_roundg (L.length - (i + 1))
              case measure => omega
              case rel => exact ⟨i + 1, acc, by go_num, rfl, by omega, rfl, Lib.hid (accR_skip HA.out rfl (by rw [HEC.out]; exact HIP.out)), Lib.hid (rowOwn_kxS HR.out (Kx.of_gr (S := fun _ => False) Kwa.out) (fun _ _ h => h)), HGa⟩
            · have hpe : p ≠ (i : Int) := fun h => hip (hpi.1 h)
              have tn : ((i : Int) != p) = true := by simpa using fun h => hpe h.symm
              have HIP := Lib.hid hip
              clear hpi hip hpe

              go_wp2_with fail
              refine wp_region_spread (by kernel_rfl) (by kernel_rfl) ?_
              try simp only [List.append]
              repeat (first | go_big_quiet_skip | (go_big_quiet_want; go_big_quiet_op; (first | go_big_quiet_on | (apply Exists.intro; refine ⟨fun _ => ?_, ?_⟩; (· fail); go_big_quiet_on))))
              refine wpQuiet_nil ?_
              intro wa hhwa
              have hwa := Hd.gr_of_spread hhwa
              have cwa_0_0 : wa.cell? ⟨W.heap.size, 0, none⟩ = some (.int .i64 2) := cell_gr hwa (by go_simp)
              have cwa_0_1 : wa.cell? ⟨W.heap.size, 1, none⟩ = some (.int .i64 id) := cell_gr hwa (by go_simp)
              have cwa_0_2 : wa.cell? ⟨W.heap.size, 2, none⟩ = some (.int .i64 kk) := cell_gr hwa (by go_simp)
              have cwa_0_3 : wa.cell? ⟨W.heap.size, 3, none⟩ = some (.slice vd n vc) := cell_gr hwa (by go_simp)
              have zwa_0 : W.heap.size < wa.heap.size := World.block_lt_of_cell? _ _ cwa_0_0
              have cwa_1_0 : wa.cell? ⟨X, 0, none⟩ = some (.slice (some ⟨D, 0, none⟩) L.length cap) := cell_gr hwa (by go_simp)
              have zwa_1 : X < wa.heap.size := World.block_lt_of_cell? _ _ cwa_1_0
              have cwa_2_0 : wa.cell? ⟨D, i * 3, none⟩ = some (.int .i64 y) := cell_gr hwa (by go_simp)
              have cwa_2_1 : wa.cell? ⟨D, i * 3 + 1, none⟩ = some (.int .i64 ky) := cell_gr hwa (by go_simp)
              have cwa_2_2 : wa.cell? ⟨D, i * 3 + 2, none⟩ = some (.slice pad my pcap) := cell_gr hwa (by go_simp)
              have zwa_2 : D < wa.heap.size := World.block_lt_of_cell? _ _ cwa_2_0
              have gwa : Gr w1 wa := Gr.trans (by have gg := gwr; have gs := gg.size; go_grown) hwa
              have Kwa := Lib.hid hwa
              clear hwa hhwa gwr

              have HGa := Lib.hid gwa
              have hwa := gwa.size
              have HRa := Lib.hid (rowOwn_gr HR.out Kwa.out)
              go_wp2_with (at_builtin; go_loud ((refine wpList_append_own2 _ rfl (.tmp 70) (.tmp 78) 41 rfl w1.heap.size 43 i0 (.agg #[.int .i64 0, .int .i64 0, .slice none 0 0]) 3 40 Tryz.underlying41 HI.out.1 HI.out.2.1 HI.out.2.2.1 HI.out.2.2.2 rfl (by decide) u7 acc.length (itCs acc) rfl (rowOwn_gr HRa.out ((Below.refl _ _).alloc (Nat.le_refl _) _)) ⟨wa.heap.size, 0, none⟩ 1 1 [.int .i64 y, .int .i64 ky, .slice pad my pcap] rfl rfl (cells_newT _ _ _ _ rfl) (by intro u hu; simp only [List.mem_cons, List.not_mem_nil, or_false] at hu; rcases hu with rfl | rfl | rfl <;> rfl) (by unfold maxLen; omega) (by omega) (by simp; omega) ?_); intro x7 w7 o7 g7; (have HO7 := Lib.hid (And.intro o7 g7)); clear o7 g7))
              have HG7 := Lib.hid (HO7.out.2.gr (Gr.trans HGa.out ((Below.refl _ _).alloc (Nat.le_refl _) _)) (fun k hk => (World.ownsRow.lt HRa.out k hk).1))
              have HA7 := Lib.hid (by have h := accR_add HH.out.rel.srt hlt HA.out (by rw [HEC.out]; exact HIP.out) (fun h => by cases h); rw [HEC.out] at h; exact h)
              go_roundg (L.length - (i + 1))
              case measure => omega
              case rel => exact ⟨i + 1, acc ++ [⟨kdy, y, ky, .slice pad my pcap, my, Xy, Yy⟩], by go_num, rfl, by omega, rfl, HA7, Lib.hid (by rw [List.length_append, itCs_app, itCs_one]; exact HO7.out.1), HG7⟩
          · obtain rfl : i = L.length := by omega
            have ti : decide ((L.length : Int) < (L.length : Int)) = false := decide_eq_false (by omega)
            have ti2 : decide (L.length < L.length) = false := decide_eq_false (by omega)
            clear hk
            obtain ⟨ad9, cp9, e9, -, -⟩ := own_any HR.out
            subst e9
            go_wp2_with fail
            go_ret
            have hh := heap_kx (S := fun _ => False) (Kx.of_gr (Gr.trans HG1.out HG.out)) (fun h => h) HROW.out
            have KS : Kx (fun k => k = X) wr (wr.setCell ⟨X, 0, none⟩ (.slice ad9 acc.length cp9)) := (Kx.refl (S := fun k => k = X) wr).setCell (p := ⟨X, 0, none⟩) rfl _
            have KW : Kx (fun k => k = X) W (wr.setCell ⟨X, 0, none⟩ (.slice ad9 acc.length cp9)) := (kx_gr (Gr.trans HG1.out HG.out)).trans KS
            refine ⟨acc, by rw [show apN σ 2 id kk n Xf Yf = 0 from HEN.out.1]; rfl, ⟨⟨(.slice ad9 acc.length cp9), Hm.heap_set_same hh, ?_⟩, ?_, ?_, Kx.gr KW HH.out.gr (fun k hk => by have e : k = X := hk; rw [e]; exact HH.out.hX), HH.out.hX⟩, ?_, KW⟩
            · exact own_monoT (rowOwn_kxS HR.out KS (fun k hk e => by
                obtain ⟨-, cur, hc⟩ := own_tyC HR.out hk
                have e2 : k = X := e
                rw [e2, hh] at hc
                simp at hc)) (Nat.le_trans hb HG1.out.size)
            · rw [show apS σ 2 id kk n Xf Yf = _ from HEN.out.2]
              exact accR_del (c := ⟨2, id, kk, .slice vd n vc, n, Xf, Yf⟩) HH.out.rel HA.out
            · intro a ha
              rcases ((HA.out).mem a).1 ha with ⟨j, hj, rfl, -⟩ | ⟨_, _, rfl⟩
              · exact HH.out.pts _ (getD_mem hj)
              · exact HP.out
            · have := (HA.out).len
              split at this <;> omega
    · have tp : decide ((0 : Int) ≤ p) = false := decide_eq_false hp0
      have tp2 : decide (p < (0 : Int)) = true := decide_eq_true (by omega)
      have hss : (σ id).isSome = false := by rw [← HPL.out.2]; exact tp
      have HSS := Lib.hid hss
      clear hss
      rcases hkk with rfl | rfl
      · have hen : apN σ 1 id kk n Xf Yf = 0 := by unfold apN; rw [if_neg (fun h => h HC.out), if_pos rfl, if_neg (by rw [HSS.out]; decide)]
        have hes : apS σ 1 id kk n Xf Yf = updS σ id (some ⟨kk, n, Xf, Yf⟩) := by unfold apS; rw [hen, if_neg (by decide), if_pos rfl]
        have HEN := Lib.hid (And.intro hen hes)
        have HA0 : Hid (AccR L 0 1 ⟨1, id, kk, .slice vd n vc, n, Xf, Yf⟩ false []) := Lib.hid ⟨List.Pairwise.nil, fun y => ⟨fun h => (by cases h), fun h => (by rcases h with ⟨j, hj, -⟩ | ⟨-, h, -⟩; exact absurd hj (Nat.not_lt_zero _); cases h)⟩, fun h => (by omega), fun _ j hj => absurd hj (Nat.not_lt_zero _), fun _ h => (by cases h), by decide⟩
        clear hen hes
        have HR0 := Lib.hid (World.ownsRow_nil w2 w1.heap.size 43 3)
        go_wp2_with fail
        go_loopg [7, 8, 9] L.length (fun m a d x wr => ∃ (i : Nat) (acc : List MChg) (dn : Bool), x = .int .i64 i ∧ d = .bool dn ∧ i ≤ L.length ∧ m = L.length - i ∧ Hid (AccR L i 1 ⟨1, id, kk, .slice vd n vc, n, Xf, Yf⟩ dn acc) ∧ Hid (wr.ownsRow w1.heap.size 43 3 a acc.length (itCs acc)) ∧ Hid (Gr w1 wr))
        case atStart => exact ⟨0, [], false, rfl, rfl, Nat.zero_le _, by omega, HA0, HR0, HG2⟩
        case round =>
          obtain ⟨i, acc, dn, rfl, rfl, hi, hk, HA, HR, HG⟩ := hrel
          have e0 := cell_gr HG.out b0
          have e1 := cell_gr HG.out b1
          have e2 := cell_gr HG.out b2
          have e3 := cell_gr HG.out b3
          have r0 := cell_gr HG.out HX0.out.1
          have rf := frozen_gr HG.out HX0.out.1 HX0.out.2
          have ze := World.block_lt_of_cell? _ _ e0
          have zr := World.block_lt_of_cell? _ _ r0
          have hwr := HG.out.size
          have hal : acc.length ≤ i + 1 := by have := HA.out.len; split at this <;> omega
          clear d0 d1 d2 d3 y0 yf zd zy
          by_cases hlt : i < L.length
          · have ti : decide ((i : Int) < (L.length : Int)) = true := decide_eq_true (by omega)
            have ti2 : decide (i < L.length) = true := decide_eq_true hlt
            have ti3 : (i : Int) < (L.length : Int) := by omega
            have ti4 : (i : Int) < (cap : Int) := by omega
            have ti5 : (i : Int) ≤ 100000 := by omega
            have hmm2 : L.length - (i + 1) < gk := by omega
            obtain ⟨rfl, q0, q1, q2⟩ := HD.out i hlt
            have hpy := HH.out.pts _ (getD_mem hlt)
            have hpi := placeR_i HH.out.rel.srt HPL.out.1 hlt
            rcases ec : L.getD i MChg.nul with ⟨kdy, y, ky, vy, my, Xy, Yy⟩
            rw [ec] at q0 q1 q2 hpy hpi
            simp only at q0 q1 q2 hpy hpi
            obtain ⟨pad, pcap, _, _, rfl, _⟩ := hpy
            have HEC := Lib.hid ec
            have HQ := Lib.hid (And.intro (cell_gr HG1.out q0) (And.intro (cell_gr HG1.out q1) (cell_gr HG1.out q2)))
            have p0 := cell_gr HG.out HQ.out.1
            have p1 := cell_gr HG.out HQ.out.2.1
            have p2 := cell_gr HG.out HQ.out.2.2
            have zD := World.block_lt_of_cell? _ _ p0
            clear q0 q1 q2 ec
            have gwr := HG.out
            have hne : y ≠ id := fun e => by have := hpi.2 e; omega
            have HNE := Lib.hid hne
            have tn : ((i : Int) != p) = true := by simp; omega
            clear hpi hne
            cases dn with
            | true =>

              go_wp2_with fail
              refine wp_region_spread (by kernel_rfl) (by kernel_rfl) ?_
              try simp only [List.append]
              repeat (first | go_big_quiet_skip | (go_big_quiet_want; go_big_quiet_op; (first | go_big_quiet_on | (apply Exists.intro; refine ⟨fun _ => ?_, ?_⟩; (· fail); go_big_quiet_on))))
              refine wpQuiet_nil ?_
              intro wa hhwa
              have hwa := Hd.gr_of_spread hhwa
              have cwa_0_0 : wa.cell? ⟨W.heap.size, 0, none⟩ = some (.int .i64 1) := cell_gr hwa (by go_simp)
              have cwa_0_1 : wa.cell? ⟨W.heap.size, 1, none⟩ = some (.int .i64 id) := cell_gr hwa (by go_simp)
              have cwa_0_2 : wa.cell? ⟨W.heap.size, 2, none⟩ = some (.int .i64 kk) := cell_gr hwa (by go_simp)
              have cwa_0_3 : wa.cell? ⟨W.heap.size, 3, none⟩ = some (.slice vd n vc) := cell_gr hwa (by go_simp)
              have zwa_0 : W.heap.size < wa.heap.size := World.block_lt_of_cell? _ _ cwa_0_0
              have cwa_1_0 : wa.cell? ⟨X, 0, none⟩ = some (.slice (some ⟨D, 0, none⟩) L.length cap) := cell_gr hwa (by go_simp)
              have zwa_1 : X < wa.heap.size := World.block_lt_of_cell? _ _ cwa_1_0
              have cwa_2_0 : wa.cell? ⟨D, i * 3, none⟩ = some (.int .i64 y) := cell_gr hwa (by go_simp)
              have cwa_2_1 : wa.cell? ⟨D, i * 3 + 1, none⟩ = some (.int .i64 ky) := cell_gr hwa (by go_simp)
              have cwa_2_2 : wa.cell? ⟨D, i * 3 + 2, none⟩ = some (.slice pad my pcap) := cell_gr hwa (by go_simp)
              have zwa_2 : D < wa.heap.size := World.block_lt_of_cell? _ _ cwa_2_0
              have gwa : Gr w1 wa := Gr.trans (by have gg := gwr; have gs := gg.size; go_grown) hwa
              have Kwa := Lib.hid hwa
              clear hwa hhwa gwr

              have HGa := Lib.hid gwa
              have hwa := gwa.size
              have HRa := Lib.hid (rowOwn_gr HR.out Kwa.out)
              go_wp2_with (at_builtin; go_loud ((refine wpList_append_own2 _ rfl (.tmp 70) (.tmp 78) 41 rfl w1.heap.size 43 i0 (.agg #[.int .i64 0, .int .i64 0, .slice none 0 0]) 3 40 Tryz.underlying41 HI.out.1 HI.out.2.1 HI.out.2.2.1 HI.out.2.2.2 rfl (by decide) u7 acc.length (itCs acc) rfl (rowOwn_gr HRa.out ((Below.refl _ _).alloc (Nat.le_refl _) _)) ⟨wa.heap.size, 0, none⟩ 1 1 [.int .i64 y, .int .i64 ky, .slice pad my pcap] rfl rfl (cells_newT _ _ _ _ rfl) (by intro u hu; simp only [List.mem_cons, List.not_mem_nil, or_false] at hu; rcases hu with rfl | rfl | rfl <;> rfl) (by unfold maxLen; omega) (by omega) (by simp; omega) ?_); intro x7 w7 o7 g7; (have HO7 := Lib.hid (And.intro o7 g7)); clear o7 g7))
              have HG7 := Lib.hid (HO7.out.2.gr (Gr.trans HGa.out ((Below.refl _ _).alloc (Nat.le_refl _) _)) (fun k hk => (World.ownsRow.lt HRa.out k hk).1))
              have HA7 := Lib.hid (by have h := accR_add HH.out.rel.srt hlt HA.out (by rw [HEC.out]; exact HNE.out) (fun h => by cases h); rw [HEC.out] at h; exact h)
              go_roundg (L.length - (i + 1))
              case measure => omega
              case rel => exact ⟨i + 1, acc ++ [⟨kdy, y, ky, .slice pad my pcap, my, Xy, Yy⟩], true, by go_num, rfl, by omega, rfl, HA7, Lib.hid (by rw [List.length_append, itCs_app, itCs_one]; exact HO7.out.1), HG7⟩
            | false =>
              by_cases hgt : id < y
              · have tg : decide (id < y) = true := decide_eq_true hgt
                have HGT := Lib.hid hgt
                clear hgt

                go_wp2_with fail
                refine wp_region_spread (by kernel_rfl) (by kernel_rfl) ?_
                try simp only [List.append]
                repeat (first | go_big_quiet_skip | (go_big_quiet_want; go_big_quiet_op; (first | go_big_quiet_on | (apply Exists.intro; refine ⟨fun _ => ?_, ?_⟩; (· fail); go_big_quiet_on))))
                refine wpQuiet_nil ?_
                intro wa hhwa
                have hwa := Hd.gr_of_spread hhwa
                have cwa_0_0 : wa.cell? ⟨W.heap.size, 0, none⟩ = some (.int .i64 1) := cell_gr hwa (by go_simp)
                have cwa_0_1 : wa.cell? ⟨W.heap.size, 1, none⟩ = some (.int .i64 id) := cell_gr hwa (by go_simp)
                have cwa_0_2 : wa.cell? ⟨W.heap.size, 2, none⟩ = some (.int .i64 kk) := cell_gr hwa (by go_simp)
                have cwa_0_3 : wa.cell? ⟨W.heap.size, 3, none⟩ = some (.slice vd n vc) := cell_gr hwa (by go_simp)
                have zwa_0 : W.heap.size < wa.heap.size := World.block_lt_of_cell? _ _ cwa_0_0
                have cwa_1_0 : wa.cell? ⟨X, 0, none⟩ = some (.slice (some ⟨D, 0, none⟩) L.length cap) := cell_gr hwa (by go_simp)
                have zwa_1 : X < wa.heap.size := World.block_lt_of_cell? _ _ cwa_1_0
                have cwa_2_0 : wa.cell? ⟨D, i * 3, none⟩ = some (.int .i64 y) := cell_gr hwa (by go_simp)
                have cwa_2_1 : wa.cell? ⟨D, i * 3 + 1, none⟩ = some (.int .i64 ky) := cell_gr hwa (by go_simp)
                have cwa_2_2 : wa.cell? ⟨D, i * 3 + 2, none⟩ = some (.slice pad my pcap) := cell_gr hwa (by go_simp)
                have zwa_2 : D < wa.heap.size := World.block_lt_of_cell? _ _ cwa_2_0
                have gwa : Gr w1 wa := Gr.trans (by have gg := gwr; have gs := gg.size; go_grown) hwa
                have Kwa := Lib.hid hwa
                clear hwa hhwa gwr

                have HGa := Lib.hid gwa
                have hwa := gwa.size
                have HRa := Lib.hid (rowOwn_gr HR.out Kwa.out)
                go_wp2_with (at_builtin; first | ((refine wpList_append_own2 _ rfl (.tmp 62) (.tmp 65) 41 rfl w1.heap.size 43 i0 (.agg #[.int .i64 0, .int .i64 0, .slice none 0 0]) 3 40 Tryz.underlying41 HI.out.1 HI.out.2.1 HI.out.2.2.1 HI.out.2.2.2 rfl (by decide) u7 acc.length (itCs acc) rfl (rowOwn_gr HRa.out ((Below.refl _ _).alloc (Nat.le_refl _) _)) ⟨wa.heap.size, 0, none⟩ 1 1 [.int .i64 id, .int .i64 kk, .slice vd n vc] rfl rfl (cells_newT _ _ _ _ rfl) (by intro u hu; simp only [List.mem_cons, List.not_mem_nil, or_false] at hu; rcases hu with rfl | rfl | rfl <;> rfl) (by unfold maxLen; omega) (by omega) (by simp; omega) ?_); intro x6 w6 o6 g6; (have HO6 := Lib.hid (And.intro o6 g6)); (have gb := g6.gr (Gr.trans HGa.out ((Below.refl _ _).alloc (Nat.le_refl _) _)) (fun k hk => (World.ownsRow.lt HRa.out k hk).1)); (have m0 := cell_gr gb HX0.out.1); (have m1 := cell_gr gb HQ.out.1); (have m2 := cell_gr gb HQ.out.2.1); (have m3 := cell_gr gb HQ.out.2.2); (have zm0 := World.block_lt_of_cell? _ _ m0); (have zm1 := World.block_lt_of_cell? _ _ m1); (have HGb := Lib.hid gb); (have HRb : Hid (w6.ownsRow w1.heap.size 43 3 x6 (acc ++ [(⟨1, id, kk, .slice vd n vc, n, Xf, Yf⟩ : MChg)]).length (itCs (acc ++ [(⟨1, id, kk, .slice vd n vc, n, Xf, Yf⟩ : MChg)])) ) := Lib.hid (by rw [List.length_append, itCs_app, itCs_one]; exact o6)); (have hs6 := gb.size); (have hal2 : (acc ++ [(⟨1, id, kk, .slice vd n vc, n, Xf, Yf⟩ : MChg)]).length ≤ i + 2 := by rw [List.length_append]; show _ + 1 ≤ _; omega); clear gb; clear o6 g6) | ((refine wpList_append_own2 _ rfl (.tmp 70) (.tmp 78) 41 rfl w1.heap.size 43 i0 (.agg #[.int .i64 0, .int .i64 0, .slice none 0 0]) 3 40 Tryz.underlying41 HI.out.1 HI.out.2.1 HI.out.2.2.1 HI.out.2.2.2 rfl (by decide) x6 (acc ++ [(⟨1, id, kk, .slice vd n vc, n, Xf, Yf⟩ : MChg)]).length (itCs (acc ++ [(⟨1, id, kk, .slice vd n vc, n, Xf, Yf⟩ : MChg)])) rfl (rowOwn_gr HRb.out ((Below.refl _ _).alloc (Nat.le_refl _) _)) ⟨w6.heap.size, 0, none⟩ 1 1 [.int .i64 y, .int .i64 ky, .slice pad my pcap] rfl rfl (cells_newT _ _ _ _ rfl) (by intro u hu; simp only [List.mem_cons, List.not_mem_nil, or_false] at hu; rcases hu with rfl | rfl | rfl <;> rfl) (by unfold maxLen; omega) (by omega) (by simp; omega) ?_); intro x7 w7 o7 g7; (have HO7 := Lib.hid (And.intro o7 g7)); clear o7 g7))
                have HAi := Lib.hid (accR_ins HH.out.rel.srt HA.out (fun _ => by rw [HEC.out]; exact HGT.out))
                have HG7 := Lib.hid (HO7.out.2.gr (Gr.trans HGb.out ((Below.refl _ _).alloc (Nat.le_refl _) _)) (fun k hk => (World.ownsRow.lt HRb.out k hk).1))
                have HA7 := Lib.hid (by have h := accR_add HH.out.rel.srt hlt HAi.out (by rw [HEC.out]; exact HNE.out) (fun h => by cases h); rw [HEC.out] at h; exact h)
                go_roundg (L.length - (i + 1))
                case measure => omega
                case rel => exact ⟨i + 1, (acc ++ [(⟨1, id, kk, .slice vd n vc, n, Xf, Yf⟩ : MChg)]) ++ [⟨kdy, y, ky, .slice pad my pcap, my, Xy, Yy⟩], true, by go_num, rfl, by omega, rfl, HA7, Lib.hid (by rw [List.length_append, itCs_app, itCs_one]; exact HO7.out.1), HG7⟩
              · have tg : decide (id < y) = false := decide_eq_false hgt
                have HGT := Lib.hid hgt
                clear hgt

                go_wp2_with fail
                refine wp_region_spread (by kernel_rfl) (by kernel_rfl) ?_
                try simp only [List.append]
                repeat (first | go_big_quiet_skip | (go_big_quiet_want; go_big_quiet_op; (first | go_big_quiet_on | (apply Exists.intro; refine ⟨fun _ => ?_, ?_⟩; (· fail); go_big_quiet_on))))
                refine wpQuiet_nil ?_
                intro wa hhwa
                have hwa := Hd.gr_of_spread hhwa
                have cwa_0_0 : wa.cell? ⟨W.heap.size, 0, none⟩ = some (.int .i64 1) := cell_gr hwa (by go_simp)
                have cwa_0_1 : wa.cell? ⟨W.heap.size, 1, none⟩ = some (.int .i64 id) := cell_gr hwa (by go_simp)
                have cwa_0_2 : wa.cell? ⟨W.heap.size, 2, none⟩ = some (.int .i64 kk) := cell_gr hwa (by go_simp)
                have cwa_0_3 : wa.cell? ⟨W.heap.size, 3, none⟩ = some (.slice vd n vc) := cell_gr hwa (by go_simp)
                have zwa_0 : W.heap.size < wa.heap.size := World.block_lt_of_cell? _ _ cwa_0_0
                have cwa_1_0 : wa.cell? ⟨X, 0, none⟩ = some (.slice (some ⟨D, 0, none⟩) L.length cap) := cell_gr hwa (by go_simp)
                have zwa_1 : X < wa.heap.size := World.block_lt_of_cell? _ _ cwa_1_0
                have cwa_2_0 : wa.cell? ⟨D, i * 3, none⟩ = some (.int .i64 y) := cell_gr hwa (by go_simp)
                have cwa_2_1 : wa.cell? ⟨D, i * 3 + 1, none⟩ = some (.int .i64 ky) := cell_gr hwa (by go_simp)
                have cwa_2_2 : wa.cell? ⟨D, i * 3 + 2, none⟩ = some (.slice pad my pcap) := cell_gr hwa (by go_simp)
                have zwa_2 : D < wa.heap.size := World.block_lt_of_cell? _ _ cwa_2_0
                have gwa : Gr w1 wa := Gr.trans (by have gg := gwr; have gs := gg.size; go_grown) hwa
                have Kwa := Lib.hid hwa
                clear hwa hhwa gwr

                have HGa := Lib.hid gwa
                have hwa := gwa.size
                have HRa := Lib.hid (rowOwn_gr HR.out Kwa.out)
                go_wp2_with (at_builtin; go_loud ((refine wpList_append_own2 _ rfl (.tmp 70) (.tmp 78) 41 rfl w1.heap.size 43 i0 (.agg #[.int .i64 0, .int .i64 0, .slice none 0 0]) 3 40 Tryz.underlying41 HI.out.1 HI.out.2.1 HI.out.2.2.1 HI.out.2.2.2 rfl (by decide) u7 acc.length (itCs acc) rfl (rowOwn_gr HRa.out ((Below.refl _ _).alloc (Nat.le_refl _) _)) ⟨wa.heap.size, 0, none⟩ 1 1 [.int .i64 y, .int .i64 ky, .slice pad my pcap] rfl rfl (cells_newT _ _ _ _ rfl) (by intro u hu; simp only [List.mem_cons, List.not_mem_nil, or_false] at hu; rcases hu with rfl | rfl | rfl <;> rfl) (by unfold maxLen; omega) (by omega) (by simp; omega) ?_); intro x7 w7 o7 g7; (have HO7 := Lib.hid (And.intro o7 g7)); clear o7 g7))
                have HG7 := Lib.hid (HO7.out.2.gr (Gr.trans HGa.out ((Below.refl _ _).alloc (Nat.le_refl _) _)) (fun k hk => (World.ownsRow.lt HRa.out k hk).1))
                have HA7 := Lib.hid (by have h := accR_add HH.out.rel.srt hlt HA.out (by rw [HEC.out]; exact HNE.out) (fun _ => by rw [HEC.out]; show ¬ id < y; have h9 := HGT.out; omega); rw [HEC.out] at h; exact h)
                go_roundg (L.length - (i + 1))
                case measure => omega
                case rel => exact ⟨i + 1, acc ++ [⟨kdy, y, ky, .slice pad my pcap, my, Xy, Yy⟩], false, by go_num, rfl, by omega, rfl, HA7, Lib.hid (by rw [List.length_append, itCs_app, itCs_one]; exact HO7.out.1), HG7⟩
          · obtain rfl : i = L.length := by omega
            have ti : decide ((L.length : Int) < (L.length : Int)) = false := decide_eq_false (by omega)
            have ti2 : decide (L.length < L.length) = false := decide_eq_false (by omega)
            clear hk
            cases dn with
            | true =>
              obtain ⟨ad9, cp9, e9, -, -⟩ := own_any HR.out
              subst e9
              go_wp2_with fail
              go_ret
              have hh := heap_kx (S := fun _ => False) (Kx.of_gr (Gr.trans HG1.out HG.out)) (fun h => h) HROW.out
              have KS : Kx (fun k => k = X) wr (wr.setCell ⟨X, 0, none⟩ (.slice ad9 acc.length cp9)) := (Kx.refl (S := fun k => k = X) wr).setCell (p := ⟨X, 0, none⟩) rfl _
              have KW : Kx (fun k => k = X) W (wr.setCell ⟨X, 0, none⟩ (.slice ad9 acc.length cp9)) := (kx_gr (Gr.trans HG1.out HG.out)).trans KS
              refine ⟨acc, by rw [show apN σ 1 id kk n Xf Yf = 0 from HEN.out.1]; rfl, ⟨⟨(.slice ad9 acc.length cp9), Hm.heap_set_same hh, ?_⟩, ?_, ?_, Kx.gr KW HH.out.gr (fun k hk => by have e : k = X := hk; rw [e]; exact HH.out.hX), HH.out.hX⟩, ?_, KW⟩
              · exact own_monoT (rowOwn_kxS HR.out KS (fun k hk e => by
                  obtain ⟨-, cur, hc⟩ := own_tyC HR.out hk
                  have e2 : k = X := e
                  rw [e2, hh] at hc
                  simp at hc)) (Nat.le_trans hb HG1.out.size)
              · rw [show apS σ 1 id kk n Xf Yf = _ from HEN.out.2]
                exact accR_put (c := ⟨1, id, kk, .slice vd n vc, n, Xf, Yf⟩) HH.out.rel HZ.out (by cases hs : σ id with | none => rfl | some o => (have h := HSS.out; rw [hs] at h; cases h)) HA.out
              · intro a ha
                rcases ((HA.out).mem a).1 ha with ⟨j, hj, rfl, -⟩ | ⟨_, _, rfl⟩
                · exact HH.out.pts _ (getD_mem hj)
                · exact HP.out
              · have := (HA.out).len
                split at this <;> omega
            | false =>
              go_wp2_with (at_builtin; go_loud ((refine wpList_append_own2 _ rfl (.tmp 82) (.tmp 85) 41 rfl w1.heap.size 43 i0 (.agg #[.int .i64 0, .int .i64 0, .slice none 0 0]) 3 40 Tryz.underlying41 HI.out.1 HI.out.2.1 HI.out.2.2.1 HI.out.2.2.2 rfl (by decide) u7 acc.length (itCs acc) rfl (rowOwn_gr HR.out ((Below.refl _ _).alloc (Nat.le_refl _) _)) ⟨wr.heap.size, 0, none⟩ 1 1 [.int .i64 id, .int .i64 kk, .slice vd n vc] rfl rfl (cells_newT _ _ _ _ rfl) (by intro u hu; simp only [List.mem_cons, List.not_mem_nil, or_false] at hu; rcases hu with rfl | rfl | rfl <;> rfl) (by unfold maxLen; omega) (by omega) (by simp; omega) ?_); intro x6 w6 o6 g6; (have HO6 := Lib.hid (And.intro o6 g6)); (have gb := g6.gr (Gr.trans HG.out ((Below.refl _ _).alloc (Nat.le_refl _) _)) (fun k hk => (World.ownsRow.lt HR.out k hk).1)); (obtain ⟨ad9, cp9, e9, -, -⟩ := own_any o6); subst e9; (have m0 := cell_gr gb HX0.out.1); (have mf := frozen_gr gb HX0.out.1 HX0.out.2); (have zm0 := World.block_lt_of_cell? _ _ m0); (have HGb := Lib.hid gb); clear gb; clear o6 g6))
              have HRb : Hid (w6.ownsRow w1.heap.size 43 3 (.slice ad9 (acc.length + 1) cp9) (acc ++ [(⟨1, id, kk, .slice vd n vc, n, Xf, Yf⟩ : MChg)]).length (itCs (acc ++ [(⟨1, id, kk, .slice vd n vc, n, Xf, Yf⟩ : MChg)]))) := Lib.hid (by rw [List.length_append, itCs_app, itCs_one]; exact HO6.out.1)
              have HAb := Lib.hid (accR_ins HH.out.rel.srt HA.out (fun h => absurd h (Nat.lt_irrefl _)))
              go_ret
              have hh := heap_kx (S := fun _ => False) (Kx.of_gr (Gr.trans HG1.out HGb.out)) (fun h => h) HROW.out
              have KS : Kx (fun k => k = X) w6 (w6.setCell ⟨X, 0, none⟩ (.slice ad9 (acc.length + 1) cp9)) := (Kx.refl (S := fun k => k = X) w6).setCell (p := ⟨X, 0, none⟩) rfl _
              have KW : Kx (fun k => k = X) W (w6.setCell ⟨X, 0, none⟩ (.slice ad9 (acc.length + 1) cp9)) := (kx_gr (Gr.trans HG1.out HGb.out)).trans KS
              refine ⟨(acc ++ [(⟨1, id, kk, .slice vd n vc, n, Xf, Yf⟩ : MChg)]), by rw [show apN σ 1 id kk n Xf Yf = 0 from HEN.out.1]; rfl, ⟨⟨(.slice ad9 (acc.length + 1) cp9), Hm.heap_set_same hh, ?_⟩, ?_, ?_, Kx.gr KW HH.out.gr (fun k hk => by have e : k = X := hk; rw [e]; exact HH.out.hX), HH.out.hX⟩, ?_, KW⟩
              · exact own_monoT (rowOwn_kxS HRb.out KS (fun k hk e => by
                  obtain ⟨-, cur, hc⟩ := own_tyC HRb.out hk
                  have e2 : k = X := e
                  rw [e2, hh] at hc
                  simp at hc)) (Nat.le_trans hb HG1.out.size)
              · rw [show apS σ 1 id kk n Xf Yf = _ from HEN.out.2]
                exact accR_put (c := ⟨1, id, kk, .slice vd n vc, n, Xf, Yf⟩) HH.out.rel HZ.out (by cases hs : σ id with | none => rfl | some o => (have h := HSS.out; rw [hs] at h; cases h)) HAb.out
              · intro a ha
                rcases ((HAb.out).mem a).1 ha with ⟨j, hj, rfl, -⟩ | ⟨_, _, rfl⟩
                · exact HH.out.pts _ (getD_mem hj)
                · exact HP.out
              · have := (HAb.out).len
                split at this <;> omega
      · clear b0 b1 b2 b3
        go_wp2_with fail
        go_ret
        exact rmTo_no (q := 7) (c := ⟨2, id, kk, .slice vd n vc, n, Xf, Yf⟩) HH.out (Gr.trans HG1.out HG2.out) (by show apN σ 2 id kk n Xf Yf = 7; unfold apN; rw [if_neg (fun h => h HC.out), if_neg (by decide), if_neg (by rw [HSS.out]; decide)]) (by decide)
  · have tq : ((q : Int) != 0) = true := by simp; omega
    have HQ := Lib.hid (And.intro hq hc)
    clear hq b0 b1 b2 b3
    go_wp2_with fail
    go_ret
    exact rmTo_no (q := q) (c := ⟨kd, id, kk, .slice vd n vc, n, Xf, Yf⟩) HH.out HG1.out (by show apN σ kd id kk n Xf Yf = q; unfold apN; rw [← HQ.out.1, if_pos HQ.out.2]) hc
end Go.Proofs.YtpomllpplpalkaaGreatDoor
