/- What the laws of this seat have in common: worlds that only grow, tables of the library that are laid, and a law's last step.; A region that draws its order, whose operations read old memory alone and whose callees make new blocks alone: one walk in the text's order.; strconv.FormatUint in base ten writes a number's digits, and leaves the old memory as it was.; wide's functions, by what they answer.; Division of a number of two words by one word, digit by digit: the plain arithmetic.; math/bits.Div64 at every divisor that is greater than the higher word.; wide's division and its decimal text.; what the document fixes of wide: awake answers true; and three more functions; WideBack's walk -/
import Derived.Test.YtpomllpplpalkaaGreatDoorRows
import Derived.WalkKit
import Derived.ProofKit
import Derived.OpenShut
import Derived.Handy
import Derived.Lib.LaidTab
import Derived.Lib.ItoaMem
import Derived.Lib.Walk
import Derived.Deep.QuietTactic
import Derived.BigQuiet
import Derived.Deep.RegionHeld3
import Derived.Deep.DeepHandedRow
import Derived.Lib.Hide
import Derived.Shelf.Spec.BitsCarry
import Derived.Outline
import Derived.Test.YtpomllpplpalkaaGreatDoorShelf
import Derived.BigCall
import Derived.BigGuard
import Derived.Laws.Bits64b
import Derived.Deep.CutBlock
import Derived.Deep.DeepCutAuto
import Derived.Deep.LoopGhost
namespace Go.Proofs.YtpomllpplpalkaaGreatDoor
set_option linter.unusedVariables false
open Go.ChangeShapes Go.WideShapes Go.ChangeAt Go.RowKit

/-- w' is w with new blocks alone. -/
abbrev Gr (w w' : World) : Prop := Below w.heap.size w w'
theorem Gr.trans {a b c : World} (h : Gr a b) (k : Gr b c) : Gr a c := Below.trans h (k.mono h.size)
theorem Gr.of_eq {a b : World} (h : b = a) : Gr a b := by subst h; exact Below.refl _ _
theorem Gr.drewN {a b : World} (h : Gr a b) (n : Nat) : Gr a (b.drewN n) := ⟨h.os, h.tape, h.output, h.size, h.block⟩
theorem Gr.grow {a : World} (n : Nat) (os : Array Obj) : Gr a (Sort.grow (a.drewN n) os) :=
  ⟨rfl, rfl, rfl, by simp [Sort.grow], fun k hk => Sort.heap_grow_old (a.drewN n) os (by simpa using hk)⟩

/-- A listed table outlives whatever leaves the old blocks as they are. -/
theorem tab_below {w w' : World} {name : String} {k : IntKind} {zs : List Int} (h : Lib.TabIs Tryz.prog w name k zs) (hg : Gr w w') : Lib.TabIs Tryz.prog w' name k zs := by
  unfold Lib.TabIs World.var? at *
  cases hn : Tryz.prog.globalNamed name with
  | none => simp [hn] at h
  | some g =>
    simp only [hn, Option.bind_some] at h ⊢
    have hlt : g < w.heap.size := by
      rcases Nat.lt_or_ge g w.heap.size with h' | h'
      · exact h'
      · rw [Array.getElem?_eq_none h'] at h; simp at h
    rw [hg.block g hlt]
    exact h

/-- What a caller goes on with behind a contract: the old blocks' cells and marks. -/
theorem bcell {W w1 : World} (hb : Gr W w1) : (∀ b o, b < W.heap.size → w1.cell? ⟨b, o, none⟩ = W.cell? ⟨b, o, none⟩) ∧ (∀ b o, b < W.heap.size → w1.frozen? ⟨b, o, none⟩ = W.frozen? ⟨b, o, none⟩) :=
  ⟨fun b o h => hb.cell (p := ⟨b, o, none⟩) h, fun b o h => hb.frozen (p := ⟨b, o, none⟩) h⟩

/-- A cell that is there stays, if only new blocks come. -/
theorem cell_gr {a b : World} {p : Addr} {v : Value} (g : Gr a b) (h : a.cell? p = some v) : b.cell? p = some v := (g.cell (World.block_lt_of_cell? a p h)).trans h
theorem frozen_gr {a b : World} {p : Addr} {v : Value} (g : Gr a b) (h : a.cell? p = some v) (hf : a.frozen? p = false) : b.frozen? p = false := (g.frozen (World.block_lt_of_cell? a p h)).trans hf
theorem Gr.drew {a b : World} (h : Gr a b) : Gr a b.drew := ⟨h.os, h.tape, h.output, h.size, h.block⟩

section
variable {H : Type} {enc : TypeId × Value → H} {P : Program}
/-- All arguments read behind the call as they did. -/
theorem trodAll_below (hl : laidOutB P = true) {W W' : World} (hb : Gr W W') {sp : Nat → Bool} :
    ∀ {ts : List TypeId} {vs : List Value} {ds : List (DataW H)} {ps : List MemPlace}, (∀ t ∈ ts, P.readableRec t = true ∧ t < P.types.size) →
      DataW.TrodAll enc P W 0 (fun _ => true) true ts vs ds ps → (∀ x ∈ ps, x.block < W.heap.size) → (∀ x ∈ ps, sp x.block = true) →
      DataW.TrodAll enc P W' 0 sp true ts vs ds ps
  | [], vs, ds, ps, _, h, _, _ => by
    obtain ⟨rfl, rfl, rfl⟩ := trodAll_nil h
    exact trodAll_mk0
  | t :: ts, vs, ds, ps, ht, h, hlt, hsp => by
    obtain ⟨v, vs', d, ds', p, q, rfl, rfl, rfl, h0, hr⟩ := trodAll_cons h
    refine trodAll_cons_mk ?_ (trodAll_below hl hb (fun u hu => ht u (List.mem_cons_of_mem _ hu)) hr (fun x hx => hlt x (List.mem_append_right _ hx)) (fun x hx => hsp x (List.mem_append_right _ hx)))
    exact WideElems.Trod_stays hl (ht t List.mem_cons_self).1 (ht t List.mem_cons_self).2 h0 (fun x hx => hb.same (hlt x (List.mem_append_left _ hx))) (fun x hx => hsp x (List.mem_append_left _ hx))

/-- A LAW's LAST STEP: it answered true, and only new blocks came. -/
theorem law_post (hl : laidOutB P = true) {f : Func} {s : ChangeSpec} {W W' : World} {args : Array Value} {ds gs : List (DataW H)} {before : List MemPlace} {tb : TypeId}
    (hts : ∀ t ∈ f.params.toList, P.readableRec t = true ∧ t < P.types.size)
    (hvs : s.vars = []) (hr : f.resultTypes = #[tb]) (htb : P.underlying tb = some .bool)
    (hfn : (s.fn H (ds ++ gs)).results = [.lit (.bool true)] ∧ (s.fn H (ds ++ gs)).args = ds ∧ (s.fn H (ds ++ gs)).vars = [])
    (hW : DataW.Whole enc P f.params.toList s.vars false W args.toList ds gs before) (hb : Gr W W') :
    s.post enc P f false true false false W args (.bool true) W' := by
  have hW' := hW
  obtain ⟨p, q, hA, hV, rfl, hz, hn⟩ := hW
  have hlt : ∀ x ∈ p ++ q, x.block < W.heap.size := fun x hx => hW'.lt x hx
  rw [hvs] at hV
  obtain ⟨rfl, rfl⟩ := trodVars_none hV
  have hsz : f.resultTypes.toList = [tb] := by rw [hr]
  have hrs : (Value.bool true).resultList f.resultTypes.size = [.bool true] := by rw [hr]; rfl
  have hres : ∀ (b : Nat) (sp : Nat → Bool) (hd : Bool), DataW.TrodAll enc P W' b sp hd f.resultTypes.toList ((Value.bool true).resultList f.resultTypes.size) (s.fn H (ds ++ [])).results [] := fun b sp hd => by
    rw [hsz, hrs, hfn.1]
    exact trodAll_cons_mk (shut_bool htb _) trodAll_mk0
  have hargs : ∀ sp : Nat → Bool, (∀ x ∈ p ++ [], sp x.block = true) → DataW.TrodAll enc P W' 0 sp true f.params.toList args.toList (s.fn H (ds ++ [])).args p := fun sp hsp => by
    rw [hfn.2.1]
    exact trodAll_below hl hb hts hA (fun x hx => hlt x (List.mem_append_left _ hx)) (fun x hx => hsp x (List.mem_append_left _ hx))
  have hvars : ∀ sp : Nat → Bool, (∀ x ∈ p ++ [], sp x.block = true) → DataW.TrodVars enc P W' sp s.vars (s.fn H (ds ++ [])).vars [] := fun sp _ => by
    rw [hfn.2.2, hvs]
    rfl
  have hold : ∀ x ∈ p ++ [], (fun b => decide (b < W.heap.size)) x.block = true := fun x hx => by simpa using hlt x hx
  refine ⟨ds, [], p ++ [], [], p, [], hW', hres _ _ _, hargs _ hold, hvars _ hold, World.keptBut_mono (fun x hx => ⟨hx, Or.inr (by simpa using hx)⟩) (hb.frame (· ∈ p ++ [])), fun _ => ?_⟩
  refine ⟨?_, _, _, ([] ++ p) ++ [], ⟨[] ++ p, [], trodAll_append (hargs _ (fun _ _ => rfl)) (hres _ _ _), hvars _ (fun _ _ => rfl), rfl, ?_, ?_⟩, ?_⟩
  · intro j t r h1 h2
    rw [hr] at h1
    rw [hrs] at h2
    cases j with
    | zero =>
      simp at h1 h2
      subst h1 h2
      exact okWide_bool_mk htb _
    | succ j => simp at h1
  · intro b off hp
    have hin : MemPlace.cell b off ∈ p ++ [] := by simpa using hp
    rw [hb.frozen (hlt _ hin)]
    exact hz b off hin
  · intro ha
    cases ha
  · intro x hx _
    simpa using hx
end
end Go.Proofs.YtpomllpplpalkaaGreatDoor
namespace Go.Proofs.YtpomllpplpalkaaGreatDoor
set_option linter.unusedVariables false
open Go.ChangeShapes Go.WideShapes Go.ChangeAt Go.RowKit

/-- What comes to a world: new blocks; the count of draws. -/
structure More where
  d : Nat
  os : Array Obj
instance : Nonempty More := ⟨⟨0, #[]⟩⟩
/-- w with these blocks behind it, the count of draws at d. -/
def spread (w : World) (m : More) : World := { w with heap := w.heap ++ m.os, drawn := m.d }

theorem gr_spread (w : World) (m : More) : Gr w (spread w m) :=
  ⟨rfl, rfl, rfl, by simp [spread], fun k hk => by simp [spread, Array.getElem?_append, hk]⟩
theorem spread_of_gr {w w' : World} (g : Gr w w') : ∃ m, w' = spread w m := by
  refine ⟨⟨w'.drawn, w'.heap.extract w.heap.size w'.heap.size⟩, ?_⟩
  have hh : w'.heap = w.heap ++ w'.heap.extract w.heap.size w'.heap.size := by
    refine Array.ext_getElem? fun k => ?_
    rw [Array.getElem?_append]
    split
    · rename_i hk
      exact g.block k hk
    · rename_i hk
      rw [Array.getElem?_extract]
      have hs := g.size
      by_cases hk2 : k < w'.heap.size
      · rw [if_pos (by omega), show w.heap.size + (k - w.heap.size) = k by omega]
      · rw [if_neg (by omega), Array.getElem?_eq_none (by omega)]
  obtain ⟨h1, h2, h3, h4, h5⟩ := g
  cases w'
  simp only [spread] at *
  subst h1 h2 h3
  congr
theorem spread_gr {w : World} {m : More} {w' : World} (g : Gr (spread w m) w') : ∃ m', w' = spread w m' := spread_of_gr (Gr.trans (gr_spread w m) g)

@[go_sem] theorem cell?_spread (w : World) (m : More) (a : Addr) (h : (w.cell? a).isSome = true) : (spread w m).cell? a = w.cell? a := by
  obtain ⟨u, hu⟩ := Option.isSome_iff_exists.1 h
  exact (gr_spread w m).cell (World.block_lt_of_cell? w a hu)

theorem wp_region_spread {P : Program} {id : Nat} {Q : Exit → Act → World → Prop} {a : Act} {w : World} {l : List Oper} (hm : P.follows .mixedOrders = true) (hB : Region.lexB .any l.toArray = true)
    (h : wpQuiet P l.toArray (fun w' => ∃ m, w' = spread w m) (fun a' => ∀ w', (∃ m, w' = spread w m) → Q .normal a' w') l a) : (Code.region id l.toArray true).wp P Q a w :=
  wp_region_quiet (C := fun w' => ∃ m, w' = spread w m) hm hB ⟨⟨w.drawn + 1, #[]⟩, by simp [spread]⟩ (by simpa using h)
end Go.Proofs.YtpomllpplpalkaaGreatDoor
namespace Go.Proofs.YtpomllpplpalkaaGreatDoor
set_option linter.unusedVariables false
open Go.ChangeShapes Go.WideShapes Go.ChangeAt Go.RowKit Go.Sort Go.Lib

theorem holds_zero0 (w : World) (T : TypeId) (nd : Nat) (hs : nd ≤ 24) : Holds (fun (b : UInt8) => Value.int .u8 (b.toNat : Int)) (w.alloc (.cells zeros24 T)) w.heap.size 0 (Array.replicate nd (0 : UInt8)) := fun j hj => by
  have hj' : j < nd := by simpa using hj
  refine ⟨?_, World.frozen?_alloc_new _ _ _ _⟩
  rw [World.cell?_alloc_new, zeros24_at _ (by omega), getElem!_pos _ j hj]
  simp
theorem fin_pos0 (w : World) (o : Obj) (dk : Array UInt8) (k : Nat) : ∃ os, (putRow (fun (b : UInt8) => Value.int .u8 (b.toNat : Int)) (w.alloc o) w.heap.size 0 dk).drewN k = grow (w.drewN k) os := by
  rw [alloc_eq_grow]
  obtain ⟨os', _, e⟩ := putRow_grow_new (fun (b : UInt8) => Value.int .u8 (b.toNat : Int)) w #[o] w.heap.size 0 dk (Nat.le_refl _)
  exact ⟨os', by rw [e]; rfl⟩

end Go.Proofs.YtpomllpplpalkaaGreatDoor
namespace Go.Proofs.YtpomllpplpalkaaGreatDoor
set_option linter.unusedVariables false
open Go.ChangeShapes Go.WideShapes Go.ChangeAt Go.RowKit

/-- The number of two words. -/
def val (hi lo : Nat) : Nat := hi * 18446744073709551616 + lo
/-- A word. -/
def Wd (a : Nat) : Prop := a < 18446744073709551616
/-- How a stands to b. -/
def cmpN (a b : Nat) : Int := if a < b then -1 else if b < a then 1 else 0

/-- A word that came in. -/
theorem u64_nat {z : Int} (h : (Lit.int .u64 z).wf = true) : ∃ a : Nat, z = a ∧ Wd a := by
  have hb := bounds_u64 h
  refine ⟨z.toNat, (Int.toNat_of_nonneg hb.1).symm, ?_⟩
  have h2 : z < 18446744073709551616 := by omega
  exact (Int.toNat_lt hb.1).2 h2

theorem c_Mul (a b : Nat) (ha : Wd a) (hb : Wd b) (w : World) :
    Calls Tryz.prog 205 #[.int .u64 a, .int .u64 b] w fun e w' => e = .returned (.agg #[.int .u64 (a * b / 18446744073709551616 : Nat), .int .u64 (a * b % 18446744073709551616 : Nat)]) ∧ Gr w w' := by
  go_enter Tryz.func205, Tryz.ntmps205
  go_wp2_with (go_at_call 210; refine (Tryz.bits_Mul64 a b ha hb _).mono ?_; rintro e w' ⟨rfl, rfl⟩)
  go_returns
  exact ⟨rfl, by go_grown⟩
theorem add64 (x y c : Nat) (hc : c ≤ 1) (w : World) : (callFunc 211 #[.int .u64 x, .int .u64 y, .int .u64 c]).run Tryz.prog w =
      .ok (.value (.tuple #[.int .u64 (((x + y + c) % 18446744073709551616 : Nat) : Int), .int .u64 (((x + y + c) / 18446744073709551616 : Nat) : Int)])) w := by
  rw [run_callFunc_extern Tryz.func211 (by kernel_rfl) (by kernel_rfl) (by kernel_rfl) (e := add64Entry) (by kernel_rfl), run_add64 x y c (by omega) (by omega) (by omega) (by omega)]
  simp only [Result.andThen]
  congr 5 <;> omega
theorem cmpN_lt {a b : Nat} (h : a < b) : cmpN a b = -1 := if_pos h
theorem cmpN_gt {a b : Nat} (h : b < a) : cmpN a b = 1 := by unfold cmpN; rw [if_neg (by omega), if_pos h]
theorem cmpN_eq {a b : Nat} (h : a = b) : cmpN a b = 0 := by unfold cmpN; rw [if_neg (by omega), if_neg (by omega)]
theorem c_cmp (a b : Nat) (w : World) :
    Calls Tryz.prog 212 #[.int .u64 a, .int .u64 b] w fun e w' => e = .returned (.int .i64 (cmpN a b)) ∧ w' = w := by
  rcases Nat.lt_trichotomy a b with h | h | h
  · rw [cmpN_lt h]
    have h2 : ¬ b < a := by omega
    go_enter Tryz.func212, Tryz.ntmps212
    go_wp2
    go_ret
    exact ⟨rfl, rfl⟩
  · rw [cmpN_eq h]
    subst h
    go_enter Tryz.func212, Tryz.ntmps212
    go_wp2
    go_ret
    exact ⟨rfl, rfl⟩
  · rw [cmpN_gt h]
    have h2 : ¬ a < b := by omega
    go_enter Tryz.func212, Tryz.ntmps212
    go_wp2
    go_ret
    exact ⟨rfl, rfl⟩
theorem c_from2 (a0 a1 a2 b0 b1 b2 : Nat) (h0 : Wd a0) (h1 : Wd a1) (k0 : Wd b0) (k1 : Wd b1) (w : World) :
    Calls Tryz.prog 171 #[.int .i64 2, .agg #[.int .u64 a0, .int .u64 a1, .int .u64 a2], .agg #[.int .u64 b0, .int .u64 b1, .int .u64 b2]] w fun e w' => e = .returned (.int .i64 (cmpN (val a1 a0) (val b1 b0))) ∧ Gr w w' := by
  have hv : cmpN (val a1 a0) (val b1 b0) = if cmpN a1 b1 = 0 then cmpN a0 b0 else cmpN a1 b1 := by
    unfold cmpN val Wd at *
    split <;> split <;> (try split) <;> (try split) <;> omega
  rcases Nat.lt_trichotomy a1 b1 with h | h | h
  · have e1 := cmpN_lt h
    rw [hv, e1]
    have E1 := Lib.hid e1
    clear hv e1 h0 h1 k0 k1
    go_enter Tryz.func171, Tryz.ntmps171
    go_wp2_with (go_at_call 212; refine (c_cmp _ _ _).mono ?_; rw [E1.out]; rintro e w' ⟨rfl, rfl⟩)
    go_ret
    exact ⟨rfl, by go_grown⟩
  · subst h
    have e1 := cmpN_eq (rfl : a1 = a1)
    rw [hv, e1, if_pos rfl]
    have E1 := Lib.hid e1
    clear hv e1 h0 h1 k0 k1
    go_enter Tryz.func171, Tryz.ntmps171
    go_wp2_with (go_at_call 212; refine (c_cmp _ _ _).mono ?_; (try rw [E1.out]); rintro e w' ⟨rfl, rfl⟩)
    go_ret
    exact ⟨rfl, by go_grown⟩
  · have e1 := cmpN_gt h
    rw [hv, e1]
    have E1 := Lib.hid e1
    clear hv e1 h0 h1 k0 k1
    go_enter Tryz.func171, Tryz.ntmps171
    go_wp2_with (go_at_call 212; refine (c_cmp _ _ _).mono ?_; rw [E1.out]; rintro e w' ⟨rfl, rfl⟩)
    go_ret
    exact ⟨rfl, by go_grown⟩
theorem mulHi {a b : Nat} (ha : Wd a) (hb : Wd b) : a * b / 18446744073709551616 ≤ 18446744073709551614 := by
  unfold Wd at *
  have h1 : a * b ≤ 18446744073709551615 * 18446744073709551615 := Nat.mul_le_mul (by omega) (by omega)
  omega
/-- Times: the product whole. -/
theorem c_Times (ah al b : Nat) (h1 : Wd ah) (h2 : Wd al) (h3 : Wd b) (w : World) :
    Calls Tryz.prog 170 #[.agg #[.int .u64 ah, .int .u64 al], .int .u64 b] w fun e w' => e = .returned (.tuple #[.int .u64 ((val ah al * b / 18446744073709551616 / 18446744073709551616 : Nat) : Int), .agg #[.int .u64 ((val ah al * b / 18446744073709551616 % 18446744073709551616 : Nat) : Int), .int .u64 ((val ah al * b % 18446744073709551616 : Nat) : Int)]]) ∧ Gr w w' := by
  have H1 := mulHi h2 h3
  have H2 := mulHi h1 h3
  have hp : val ah al * b = ah * b * 18446744073709551616 + al * b := by unfold val; rw [Nat.add_mul, Nat.mul_right_comm]
  obtain ⟨p, hp1⟩ : ∃ p, p = ah * b := ⟨_, rfl⟩
  obtain ⟨q, hq1⟩ : ∃ q, q = al * b := ⟨_, rfl⟩
  obtain ⟨ca, hca⟩ : ∃ ca, ca = q / 18446744073709551616 := ⟨_, rfl⟩
  obtain ⟨lo, hlo⟩ : ∃ lo, lo = q % 18446744073709551616 := ⟨_, rfl⟩
  obtain ⟨t0, ht0⟩ : ∃ t0, t0 = p / 18446744073709551616 := ⟨_, rfl⟩
  obtain ⟨h0, hh0⟩ : ∃ h0, h0 = p % 18446744073709551616 := ⟨_, rfl⟩
  obtain ⟨hi, hhi⟩ : ∃ hi, hi = (h0 + ca) % 18446744073709551616 := ⟨_, rfl⟩
  obtain ⟨cy, hcy⟩ : ∃ cy, cy = (h0 + ca) / 18446744073709551616 := ⟨_, rfl⟩
  have f1 : val ah al * b / 18446744073709551616 / 18446744073709551616 = t0 + cy := by rw [hp, ← hp1, ← hq1]; omega
  have f2 : val ah al * b / 18446744073709551616 % 18446744073709551616 = hi := by rw [hp, ← hp1, ← hq1]; omega
  have f3 : val ah al * b % 18446744073709551616 = lo := by rw [hp, ← hp1, ← hq1]; omega
  rw [f1, f2, f3]
  have ht : t0 + cy ≤ 18446744073709551615 := by rw [← hp1] at H2; rw [← hq1] at H1; omega
  have m1 : ∀ W, Calls Tryz.prog 210 #[.int .u64 al, .int .u64 b] W fun e w' => e = .returned (.tuple #[.int .u64 ca, .int .u64 lo]) ∧ w' = W := fun W => by
    have := Tryz.bits_Mul64 al b h2 h3 W
    rw [← hq1, ← hca, ← hlo] at this; exact this
  have m2 : ∀ W, Calls Tryz.prog 210 #[.int .u64 ah, .int .u64 b] W fun e w' => e = .returned (.tuple #[.int .u64 t0, .int .u64 h0]) ∧ w' = W := fun W => by
    have := Tryz.bits_Mul64 ah b h1 h3 W
    rw [← hp1, ← ht0, ← hh0] at this; exact this
  have e1 : ∀ W, (callFunc 211 #[.int .u64 h0, .int .u64 ca, .int .u64 0]).run Tryz.prog W = .ok (.value (.tuple #[.int .u64 hi, .int .u64 cy])) W := fun W => by
    have := add64 h0 ca 0 (by omega) W
    rw [Nat.add_zero, ← hhi, ← hcy] at this; exact this
  have M1 := Lib.hid m1
  have M2 := Lib.hid m2
  clear m1 m2 f1 f2 f3 hp hp1 hq1 hca hlo ht0 hh0 hhi hcy H1 H2
  go_enter Tryz.func170, Tryz.ntmps170
  go_wp2_with (go_at_call 210; first | ((with_reducible refine (M1.out _).mono ?_); rintro e w' ⟨rfl, rfl⟩) | ((with_reducible refine (M2.out _).mono ?_); rintro e w' ⟨rfl, rfl⟩))
  go_returns
  exact ⟨rfl, by go_grown⟩
end Go.Proofs.YtpomllpplpalkaaGreatDoor
namespace Go.Proofs.YtpomllpplpalkaaGreatDoor.Kn
set_option linter.unusedVariables false
open Go

theorem parts {a b c q : Nat} : q * (a * c + b) = q * a * c + q * b := by rw [Nat.mul_add, Nat.mul_assoc]

/-- The guess is too great. -/
theorem gt {yn1 yn0 u d q r : Nat} (hr : q * yn1 + r = u) (hd : d < 4294967296) (hu : u < yn1 * 4294967296 + yn0)
    (h : 4294967296 ≤ q ∨ 4294967296 * r + d < q * yn0) : (u * 4294967296 + d) / (yn1 * 4294967296 + yn0) < q := by
  have hy : 0 < yn1 * 4294967296 + yn0 := by omega
  rw [Nat.div_lt_iff_lt_mul hy]
  rcases h with h | h
  · have h1 : u * 4294967296 + d < (yn1 * 4294967296 + yn0) * 4294967296 := by omega
    have h2 : (yn1 * 4294967296 + yn0) * 4294967296 ≤ (yn1 * 4294967296 + yn0) * q := Nat.mul_le_mul_left _ h
    rw [Nat.mul_comm q]
    omega
  · rw [parts]
    omega

/-- The guess is the digit. -/
theorem eq {yn1 yn0 u d q r : Nat} (hr : q * yn1 + r = u) (hd : d < 4294967296) (hu : u < yn1 * 4294967296 + yn0)
    (hq : (u * 4294967296 + d) / (yn1 * 4294967296 + yn0) ≤ q) (h : q * yn0 ≤ 4294967296 * r + d) : (u * 4294967296 + d) / (yn1 * 4294967296 + yn0) = q := by
  have hy : 0 < yn1 * 4294967296 + yn0 := by omega
  refine Nat.le_antisymm hq ?_
  rw [Nat.le_div_iff_mul_le hy, parts]
  omega

/-- What is left has passed the digit's size: the guess is the digit. -/
theorem eq_break {yn1 yn0 u d q r : Nat} (hr : q * yn1 + r = u) (hd : d < 4294967296) (hu : u < yn1 * 4294967296 + yn0) (h0 : yn0 < 4294967296)
    (hq : (u * 4294967296 + d) / (yn1 * 4294967296 + yn0) ≤ q) (h : 4294967296 ≤ r) : (u * 4294967296 + d) / (yn1 * 4294967296 + yn0) = q := by
  refine eq hr hd hu hq ?_
  have h1 : q * yn1 < 4294967296 * yn1 := by omega
  have h2 : q < 4294967296 := Nat.lt_of_mul_lt_mul_right h1
  have h3 : q * yn0 ≤ 4294967295 * 4294967295 := Nat.mul_le_mul (by omega) (by omega)
  omega

/-- The first guess is no less than the digit. -/
theorem first {yn1 yn0 u d : Nat} (h1 : 1 ≤ yn1) (hd : d < 4294967296) : (u * 4294967296 + d) / (yn1 * 4294967296 + yn0) ≤ u / yn1 := by
  have hy : 0 < yn1 * 4294967296 + yn0 := by omega
  have hlt : u < (u / yn1 + 1) * yn1 := by rw [← Nat.div_lt_iff_lt_mul h1]; omega
  have : (u * 4294967296 + d) / (yn1 * 4294967296 + yn0) < u / yn1 + 1 := by
    rw [Nat.div_lt_iff_lt_mul hy, parts]
    have : u + 1 ≤ (u / yn1 + 1) * yn1 := hlt
    omega
  omega

/-- From both digits to the quotient and the rest. -/
theorem whole {n y S Y Q1 R1 Q0 R0 t l : Nat} (hS : 0 < S) (hY : Y = y * S) (hn : n * S = t * 4294967296 + l)
    (h1 : t = Q1 * Y + R1) (h0 : R1 * 4294967296 + l = Q0 * Y + R0) (hR : R0 < Y) :
    n / y = Q1 * 4294967296 + Q0 ∧ n % y * S = R0 := by
  have e : n * S = (Q1 * 4294967296 + Q0) * Y + R0 := by
    rw [hn, h1, Nat.add_mul, Nat.add_mul, Nat.mul_right_comm]
    omega
  constructor
  · rw [← Nat.mul_div_mul_right n y hS, ← hY, e, Nat.mul_comm (_ + _) Y, Nat.mul_add_div (by omega), Nat.div_eq_of_lt hR, Nat.add_zero]
  · rw [← Nat.mul_mod_mul_right, ← hY, e, Nat.mul_comm (_ + _) Y, Nat.mul_add_mod, Nat.mod_eq_of_lt hR]

/-- The higher word shifted, with what comes in from the lower one. -/
theorem shifted {hi lo s : Nat} (hs : s ≤ 63) (hl : lo < 18446744073709551616) : (hi * 2 ^ s) ||| (lo / 2 ^ (64 - s)) = hi * 2 ^ s + lo / 2 ^ (64 - s) := by
  have hb : lo / 2 ^ (64 - s) < 2 ^ s := by
    rw [Nat.div_lt_iff_lt_mul (Nat.two_pow_pos _), ← Nat.pow_add, show s + (64 - s) = 64 by omega]
    exact hl
  rw [Nat.mul_comm, Nat.two_pow_add_eq_or_of_lt hb]

theorem split {hi lo s : Nat} (hs : s ≤ 63) (hl : lo < 18446744073709551616) : (hi * 18446744073709551616 + lo) * 2 ^ s = (hi * 2 ^ s + lo / 2 ^ (64 - s)) * 18446744073709551616 + lo * 2 ^ s % 18446744073709551616 := by
  have e : (18446744073709551616 : Nat) = 2 ^ (64 - s) * 2 ^ s := by rw [← Nat.pow_add, show 64 - s + s = 64 by omega]
  have h1 : lo * 2 ^ s % 18446744073709551616 = lo % 2 ^ (64 - s) * 2 ^ s := by rw [e, Nat.mul_mod_mul_right]
  have h2 := Nat.div_add_mod lo (2 ^ (64 - s))
  rw [h1, Nat.add_mul, Nat.add_mul, Nat.add_assoc, Nat.mul_right_comm]
  congr 1
  conv => lhs; rw [← h2, Nat.add_mul]
  congr 1
  rw [Nat.mul_comm (2 ^ (64 - s)), Nat.mul_assoc, ← e]

/-- The rest of one step, reckoned with words that go round. -/
theorem rest_wrap {u d q Y R : Nat} (h : u * 4294967296 + d = q * Y + R) (hR : R < 18446744073709551616) :
    IntKind.u64.wrap (IntKind.u64.wrap (IntKind.u64.wrap ((u : Int) * 4294967296) + (d : Int)) - IntKind.u64.wrap ((q : Int) * (Y : Int))) = (R : Int) := by
  simp only [IntKind.wrap_u64]
  obtain ⟨p, hp⟩ : ∃ p : Nat, p = q * Y := ⟨_, rfl⟩
  have hc : (q : Int) * (Y : Int) = (p : Int) := by rw [hp]; simp
  rw [hc]
  rw [← hp] at h
  omega
end Go.Proofs.YtpomllpplpalkaaGreatDoor.Kn
namespace Go.Proofs.YtpomllpplpalkaaGreatDoor
set_option linter.unusedVariables false
open Go.ChangeShapes Go.WideShapes Go.ChangeAt Go.RowKit

/-- One digit's guess, lowered till it is the digit: the relation of both loops. -/
def DigRel (u yn1 Q : Nat) (q r : Value) : Prop := ∃ a b : Nat, q = .int .u64 a ∧ r = .int .u64 b ∧ a * yn1 + b = u ∧ Q ≤ a ∧ b < 4294967296

set_option maxHeartbeats 4000000 in
set_option maxRecDepth 100000 in
theorem d_main (hi lo y s Y yn1 yn0 u v un1 un0 g1 r1 Q1 t g0 r0 Q0 R0 : Nat) (h0 : 1 ≤ hi) (hy : hi < y) (hyw : y ≤ 18446744073709551615) (hl : lo ≤ 18446744073709551615) (hs : s ≤ 63) (w : World)
    (hz : ∀ W, Calls Tryz.prog 236 #[.int .u64 y] W fun e w' => e = .returned (.int .i64 s) ∧ W = w')
    (hY : IntKind.u64.wrap ((y : Int) * 2 ^ s) = (Y : Int)) (hYl : Y ≤ 18446744073709551615) (h1 : (Y : Int) / 4294967296 = (yn1 : Int)) (hyn : 2147483648 ≤ yn1) (hyn1 : yn1 < 4294967296) (hyn0 : yn0 < 4294967296) (hYe : yn1 * 4294967296 + yn0 = Y)
    (hA : bits BinOp.and IntKind.u64 (Y : Int) 4294967295 = (yn0 : Int))
    (hO : bits BinOp.or IntKind.u64 (IntKind.u64.wrap ((hi : Int) * 2 ^ s)) ((lo : Int) / 2 ^ (64 - s)) = (u : Int)) (hu : u < Y)
    (hL : IntKind.u64.wrap ((lo : Int) * 2 ^ s) = (v : Int)) (hL1 : (v : Int) / 4294967296 = (un1 : Int)) (hL0 : bits BinOp.and IntKind.u64 (v : Int) 4294967295 = (un0 : Int)) (hun1 : un1 < 4294967296) (hun0 : un0 < 4294967296) (hvl : v ≤ 18446744073709551615)
    (hg1 : (u : Int) / (yn1 : Int) = (g1 : Int)) (hr1 : IntKind.u64.wrap ((u : Int) - IntKind.u64.wrap ((g1 : Int) * (yn1 : Int))) = (r1 : Int)) (hgr1 : g1 * yn1 + r1 = u) (hr1l : r1 < yn1) (hQ1 : Q1 = (u * 4294967296 + un1) / (yn1 * 4294967296 + yn0)) (hQg1 : Q1 ≤ g1)
    (ht : IntKind.u64.wrap (IntKind.u64.wrap (IntKind.u64.wrap ((u : Int) * 4294967296) + (un1 : Int)) - IntKind.u64.wrap ((Q1 : Int) * (Y : Int))) = (t : Int)) (htl : t < Y)
    (hg0 : (t : Int) / (yn1 : Int) = (g0 : Int)) (hr0 : IntKind.u64.wrap ((t : Int) - IntKind.u64.wrap ((g0 : Int) * (yn1 : Int))) = (r0 : Int)) (hgr0 : g0 * yn1 + r0 = t) (hr0l : r0 < yn1) (hQ0 : Q0 = (t * 4294967296 + un0) / (yn1 * 4294967296 + yn0)) (hQg0 : Q0 ≤ g0)
    (hR : IntKind.u64.wrap (IntKind.u64.wrap (IntKind.u64.wrap ((t : Int) * 4294967296) + (un0 : Int)) - IntKind.u64.wrap ((Q0 : Int) * (Y : Int))) = (R0 : Int)) (hQ1l : Q1 < 4294967296) (hQ0l : Q0 < 4294967296) (hg1l : g1 ≤ 18446744073709551615) (hg0l : g0 ≤ 18446744073709551615) (hul : u ≤ 18446744073709551615) (htl2 : t ≤ 18446744073709551615) (hR0l : R0 ≤ 18446744073709551615) :
    Calls Tryz.prog 230 #[.int .u64 hi, .int .u64 lo, .int .u64 y] w fun e w' => e = .returned (.tuple #[.int .u64 ((Q1 : Int) * 4294967296 + (Q0 : Int)), .int .u64 ((R0 : Int) / 2 ^ s)]) ∧ w = w' := by
  have HZ := Lib.hid hz
  have HYe := Lib.hid hYe
  have Hgr1 := Lib.hid hgr1
  have Hgr0 := Lib.hid hgr0
  have HQ1 := Lib.hid hQ1
  have HQ0 := Lib.hid hQ0
  clear hz hYe hgr1 hgr0 hQ1 hQ0
  go_enter Tryz.func230, Tryz.ntmps230
  go_upto_block 0 with (go_at_call 236; refine (HZ.out _).mono ?_; rintro e w' ⟨rfl, rfl⟩)
  go_cut [15] (fun c wx => c = .int .u64 Q1 ∧ w = wx)
  case first =>
    go_wp2_with fail
    go_loop [15, 16] (fun c d => DigRel u yn1 Q1 c d) (fun c _ => (intOf c).toNat)
    case atStart => exact ⟨g1, r1, rfl, rfl, Hgr1.out, hQg1, by omega⟩
    case round =>
      obtain ⟨a, b, rfl, rfl, hab, hQa, hb⟩ := hrel
      have hau : a ≤ u := by
        have h1 : a * 1 ≤ a * yn1 := Nat.mul_le_mul_left a (by omega)
        omega
      have Hab := Lib.hid hab
      clear hab
      by_cases hA4 : (4294967296 : Int) ≤ (a : Int)
      · have hqa : Q1 < a := by
          have := Kn.gt (yn0 := yn0) Hab.out hun1 (by have := HYe.out; omega) (Or.inl (by omega))
          rw [← HQ1.out] at this
          exact this
        have HPOS := Lib.hid (Nat.le_sub_one_of_lt hqa)
        have ha1 : (1 : Int) ≤ (a : Int) := by omega
        clear hqa
        have hnext : (a - 1) * yn1 + (b + yn1) = u := by
          have h1 := Hab.out
          have h2 : a * yn1 = (a - 1) * yn1 + yn1 := by rw [← Nat.succ_mul]; congr 1; omega
          omega
        obtain ⟨c, hc⟩ : ∃ c : Nat, c = b + yn1 := ⟨_, rfl⟩
        have hci : (b : Int) + (yn1 : Int) = (c : Int) := by omega
        have hcl : c < 8589934592 := by omega
        rw [← hc] at hnext
        clear hc
        by_cases hb2 : (c : Int) < 4294967296
        · have HN := Lib.hid hnext
          clear hnext
          have hd2 : decide ((4294967296 : Int) ≤ (c : Int)) = false := decide_eq_false (by omega)
          go_wp2
          go_round
          case rel => exact ⟨a - 1, c, by go_num, by go_num, HN.out, HPOS.out, by omega⟩
          case measure => simp [intOf]; omega
        · have hd2 : decide ((4294967296 : Int) ≤ (c : Int)) = true := decide_eq_true (by omega)
          have hfin := Kn.eq_break (yn0 := yn0) hnext hun1 (by have := HYe.out; omega) hyn0 (by rw [← HQ1.out]; exact HPOS.out) (by omega)
          rw [← HQ1.out] at hfin
          have HF := Lib.hid hfin
          clear hfin hnext
          go_wp2
          go_meet
          exact ⟨by have := HF.out; go_num, rfl⟩
      · obtain ⟨p, hp⟩ : ∃ p : Nat, p = a * yn0 := ⟨_, rfl⟩
        have hpl : p ≤ 4294967295 * 4294967295 := by rw [hp]; exact Nat.mul_le_mul (by omega) (by omega)
        have hpi : (a : Int) * (yn0 : Int) = (p : Int) := by rw [hp]; simp
        have HP := Lib.hid hp
        clear hp
        have hA5 : decide ((4294967296 : Int) ≤ (a : Int)) = false := decide_eq_false hA4
        by_cases hgt : (4294967296 : Int) * (b : Int) + (un1 : Int) < (p : Int)
        · have hgt2 : decide ((4294967296 : Int) * (b : Int) + (un1 : Int) < (p : Int)) = true := decide_eq_true hgt
          have hqa : Q1 < a := by
            have := Kn.gt (yn0 := yn0) Hab.out hun1 (by have := HYe.out; omega) (Or.inr (by rw [← HP.out]; omega))
            rw [← HQ1.out] at this
            exact this
          have HPOS := Lib.hid (Nat.le_sub_one_of_lt hqa)
          have ha1 : (1 : Int) ≤ (a : Int) := by omega
          clear hqa
          have hnext : (a - 1) * yn1 + (b + yn1) = u := by
            have h1 := Hab.out
            have h2 : a * yn1 = (a - 1) * yn1 + yn1 := by rw [← Nat.succ_mul]; congr 1; omega
            omega
          obtain ⟨c, hc⟩ : ∃ c : Nat, c = b + yn1 := ⟨_, rfl⟩
          have hci : (b : Int) + (yn1 : Int) = (c : Int) := by omega
          have hcl : c < 8589934592 := by omega
          rw [← hc] at hnext
          clear hc
          by_cases hb2 : (c : Int) < 4294967296
          · have HN := Lib.hid hnext
            clear hnext
            have hd2 : decide ((4294967296 : Int) ≤ (c : Int)) = false := decide_eq_false (by omega)
            go_wp2
            go_round
            case rel => exact ⟨a - 1, c, by go_num, by go_num, HN.out, HPOS.out, by omega⟩
            case measure => simp [intOf]; omega
          · have hd2 : decide ((4294967296 : Int) ≤ (c : Int)) = true := decide_eq_true (by omega)
            have hfin := Kn.eq_break (yn0 := yn0) hnext hun1 (by have := HYe.out; omega) hyn0 (by rw [← HQ1.out]; exact HPOS.out) (by omega)
            rw [← HQ1.out] at hfin
            have HF := Lib.hid hfin
            clear hfin hnext
            go_wp2
            go_meet
            exact ⟨by have := HF.out; go_num, rfl⟩
        · have hfin := Kn.eq (yn0 := yn0) Hab.out hun1 (by have := HYe.out; omega) (by rw [← HQ1.out]; exact hQa) (by rw [← HP.out]; omega)
          rw [← HQ1.out] at hfin
          have HF := Lib.hid hfin
          clear hfin
          go_wp2
          go_meet
          exact ⟨by have := HF.out; go_num, rfl⟩
  case rest =>
    obtain ⟨rfl, rfl⟩ := hcut
    go_upto_block 2 with fail
    go_cut [18] (fun c wx => c = .int .u64 Q0 ∧ w = wx)
    case first =>
      go_wp2_with fail
      go_loop [18, 16] (fun c d => DigRel t yn1 Q0 c d) (fun c _ => (intOf c).toNat)
      case atStart => exact ⟨g0, r0, rfl, rfl, Hgr0.out, hQg0, by omega⟩
      case round =>
        obtain ⟨a, b, rfl, rfl, hab, hQa, hb⟩ := hrel
        have hau : a ≤ t := by
          have h1 : a * 1 ≤ a * yn1 := Nat.mul_le_mul_left a (by omega)
          omega
        have Hab := Lib.hid hab
        clear hab
        by_cases hA4 : (4294967296 : Int) ≤ (a : Int)
        · have hqa : Q0 < a := by
            have := Kn.gt (yn0 := yn0) Hab.out hun0 (by have := HYe.out; omega) (Or.inl (by omega))
            rw [← HQ0.out] at this
            exact this
          have HPOS := Lib.hid (Nat.le_sub_one_of_lt hqa)
          have ha1 : (1 : Int) ≤ (a : Int) := by omega
          clear hqa
          have hnext : (a - 1) * yn1 + (b + yn1) = t := by
            have h1 := Hab.out
            have h2 : a * yn1 = (a - 1) * yn1 + yn1 := by rw [← Nat.succ_mul]; congr 1; omega
            omega
          obtain ⟨c, hc⟩ : ∃ c : Nat, c = b + yn1 := ⟨_, rfl⟩
          have hci : (b : Int) + (yn1 : Int) = (c : Int) := by omega
          have hcl : c < 8589934592 := by omega
          rw [← hc] at hnext
          clear hc
          by_cases hb2 : (c : Int) < 4294967296
          · have HN := Lib.hid hnext
            clear hnext
            have hd2 : decide ((4294967296 : Int) ≤ (c : Int)) = false := decide_eq_false (by omega)
            go_wp2
            go_round
            case rel => exact ⟨a - 1, c, by go_num, by go_num, HN.out, HPOS.out, by omega⟩
            case measure => simp [intOf]; omega
          · have hd2 : decide ((4294967296 : Int) ≤ (c : Int)) = true := decide_eq_true (by omega)
            have hfin := Kn.eq_break (yn0 := yn0) hnext hun0 (by have := HYe.out; omega) hyn0 (by rw [← HQ0.out]; exact HPOS.out) (by omega)
            rw [← HQ0.out] at hfin
            have HF := Lib.hid hfin
            clear hfin hnext
            go_wp2
            go_meet
            exact ⟨by have := HF.out; go_num, rfl⟩
        · obtain ⟨p, hp⟩ : ∃ p : Nat, p = a * yn0 := ⟨_, rfl⟩
          have hpl : p ≤ 4294967295 * 4294967295 := by rw [hp]; exact Nat.mul_le_mul (by omega) (by omega)
          have hpi : (a : Int) * (yn0 : Int) = (p : Int) := by rw [hp]; simp
          have HP := Lib.hid hp
          clear hp
          have hA5 : decide ((4294967296 : Int) ≤ (a : Int)) = false := decide_eq_false hA4
          by_cases hgt : (4294967296 : Int) * (b : Int) + (un0 : Int) < (p : Int)
          · have hgt2 : decide ((4294967296 : Int) * (b : Int) + (un0 : Int) < (p : Int)) = true := decide_eq_true hgt
            have hqa : Q0 < a := by
              have := Kn.gt (yn0 := yn0) Hab.out hun0 (by have := HYe.out; omega) (Or.inr (by rw [← HP.out]; omega))
              rw [← HQ0.out] at this
              exact this
            have HPOS := Lib.hid (Nat.le_sub_one_of_lt hqa)
            have ha1 : (1 : Int) ≤ (a : Int) := by omega
            clear hqa
            have hnext : (a - 1) * yn1 + (b + yn1) = t := by
              have h1 := Hab.out
              have h2 : a * yn1 = (a - 1) * yn1 + yn1 := by rw [← Nat.succ_mul]; congr 1; omega
              omega
            obtain ⟨c, hc⟩ : ∃ c : Nat, c = b + yn1 := ⟨_, rfl⟩
            have hci : (b : Int) + (yn1 : Int) = (c : Int) := by omega
            have hcl : c < 8589934592 := by omega
            rw [← hc] at hnext
            clear hc
            by_cases hb2 : (c : Int) < 4294967296
            · have HN := Lib.hid hnext
              clear hnext
              have hd2 : decide ((4294967296 : Int) ≤ (c : Int)) = false := decide_eq_false (by omega)
              go_wp2
              go_round
              case rel => exact ⟨a - 1, c, by go_num, by go_num, HN.out, HPOS.out, by omega⟩
              case measure => simp [intOf]; omega
            · have hd2 : decide ((4294967296 : Int) ≤ (c : Int)) = true := decide_eq_true (by omega)
              have hfin := Kn.eq_break (yn0 := yn0) hnext hun0 (by have := HYe.out; omega) hyn0 (by rw [← HQ0.out]; exact HPOS.out) (by omega)
              rw [← HQ0.out] at hfin
              have HF := Lib.hid hfin
              clear hfin hnext
              go_wp2
              go_meet
              exact ⟨by have := HF.out; go_num, rfl⟩
          · have hfin := Kn.eq (yn0 := yn0) Hab.out hun0 (by have := HYe.out; omega) (by rw [← HQ0.out]; exact hQa) (by rw [← HP.out]; omega)
            rw [← HQ0.out] at hfin
            have HF := Lib.hid hfin
            clear hfin
            go_wp2
            go_meet
            exact ⟨by have := HF.out; go_num, rfl⟩
    case rest =>
      obtain ⟨rfl, rfl⟩ := hcut
      go_wp2
      go_ret2
      exact ⟨rfl, rfl⟩

/-- The divisor's leading noughts, struck by a shift. -/
theorem norm {y : Nat} (h1 : 1 ≤ y) (h : Wd y) : ∃ s : Nat, s ≤ 63 ∧ 64 - (Lib.bitLen y : Int) = (s : Int) ∧ 9223372036854775808 ≤ y * 2 ^ s ∧ y * 2 ^ s < 18446744073709551616 := by
  obtain ⟨b1, b2, b3⟩ := Lib.bitLenAux_bounds 64 y h (by omega)
  have hb : Lib.bitLenAux 64 y ≤ 64 := by
    rcases Nat.lt_or_ge 64 (Lib.bitLenAux 64 y) with g | g
    · exfalso
      have := Nat.pow_le_pow_right (n := 2) (by omega) (show 64 ≤ Lib.bitLenAux 64 y - 1 by omega)
      unfold Wd at h
      omega
    · exact g
  obtain ⟨k, hk⟩ : ∃ k, k = Lib.bitLenAux 64 y := ⟨_, rfl⟩
  have hbl : Lib.bitLen y = k := by rw [hk]; rfl
  rw [← hk] at b1 b2 b3 hb
  refine ⟨64 - k, by omega, by rw [hbl]; omega, ?_, ?_⟩
  · have h2 : 2 ^ (k - 1) * 2 ^ (64 - k) ≤ y * 2 ^ (64 - k) := Nat.mul_le_mul_right _ b2
    rw [← Nat.pow_add, show k - 1 + (64 - k) = 63 by omega] at h2
    exact h2
  · have h2 : y * 2 ^ (64 - k) < 2 ^ k * 2 ^ (64 - k) := Nat.mul_lt_mul_of_pos_right b3 (Nat.two_pow_pos _)
    rw [← Nat.pow_add, show k + (64 - k) = 64 by omega] at h2
    exact h2

theorem d_zero (lo y : Nat) (h1 : 1 ≤ y) (hyw : Wd y) (hl : Wd lo) (w : World) :
    Calls Tryz.prog 230 #[.int .u64 0, .int .u64 lo, .int .u64 y] w fun e w' => e = .returned (.tuple #[.int .u64 ((lo / y : Nat) : Int), .int .u64 ((lo % y : Nat) : Int)]) ∧ Gr w w' := by
  unfold Wd at hyw hl
  have hd0 : (((y : Nat) : Int) == 0) = false := by simp; omega
  have hd1 : decide ((y : Int) ≤ 0) = false := decide_eq_false (by omega)
  have hq : lo / y ≤ 18446744073709551615 := Nat.le_trans (Nat.div_le_self _ _) (by omega)
  have hr : lo % y ≤ 18446744073709551615 := Nat.le_trans (Nat.mod_le _ _) (by omega)
  go_enter Tryz.func230, Tryz.ntmps230
  go_wp2
  go_quiet (fail)
  go_wp2
  go_ret2
  have e1 : IntKind.u64.wrap ((lo : Int) / (y : Int)) = ((lo / y : Nat) : Int) := by rw [← Int.natCast_ediv]; generalize lo / y = k at hq; exact IntWalk.u64_in _ (by omega)
  refine ⟨?_, Gr.drewN (Below.refl _ _) _⟩
  show Ending.returned (.tuple #[.int .u64 (IntKind.u64.wrap ((lo : Int) / (y : Int))), .int .u64 ((lo : Int) % (y : Int))]) = _
  rw [e1, ← Int.natCast_emod]

/-- Div64, whatever the higher word below the divisor. -/
theorem c_Div64 (hi lo y : Nat) (hy : hi < y) (hyw : Wd y) (hl : Wd lo) (w : World) :
    Calls Tryz.prog 230 #[.int .u64 hi, .int .u64 lo, .int .u64 y] w fun e w' => e = .returned (.tuple #[.int .u64 ((val hi lo / y : Nat) : Int), .int .u64 ((val hi lo % y : Nat) : Int)]) ∧ Gr w w' := by
  rcases Nat.eq_zero_or_pos hi with rfl | hpos
  · have e : val 0 lo = lo := by unfold val; omega
    rw [e]
    exact d_zero lo y hy hyw hl w
  · have hy1 : 1 ≤ y := by omega
    obtain ⟨s, hs, hlz, hn1, hn2⟩ := norm hy1 hyw
    obtain ⟨Y, hY⟩ : ∃ Y, Y = y * 2 ^ s := ⟨_, rfl⟩
    obtain ⟨u, hu⟩ : ∃ u, u = hi * 2 ^ s + lo / 2 ^ (64 - s) := ⟨_, rfl⟩
    obtain ⟨v, hv⟩ : ∃ v, v = lo * 2 ^ s % 18446744073709551616 := ⟨_, rfl⟩
    have hsp := Kn.split (hi := hi) hs hl
    rw [← hu, ← hv] at hsp
    have hlo : lo / 2 ^ (64 - s) < 2 ^ s := by
      rw [Nat.div_lt_iff_lt_mul (Nat.two_pow_pos _), ← Nat.pow_add, show s + (64 - s) = 64 by omega]
      exact hl
    have huY : u < Y := by
      have h1 : hi * 2 ^ s + 2 ^ s ≤ y * 2 ^ s := by rw [← Nat.succ_mul]; exact Nat.mul_le_mul_right _ hy
      omega
    rw [← hY] at hn1 hn2
    have hvl : v < 18446744073709551616 := by rw [hv]; exact Nat.mod_lt _ (by omega)
    obtain ⟨yn1, hyn1⟩ : ∃ yn1, yn1 = Y / 4294967296 := ⟨_, rfl⟩
    obtain ⟨yn0, hyn0⟩ : ∃ yn0, yn0 = Y % 4294967296 := ⟨_, rfl⟩
    obtain ⟨un1, hun1⟩ : ∃ un1, un1 = v / 4294967296 := ⟨_, rfl⟩
    obtain ⟨un0, hun0⟩ : ∃ un0, un0 = v % 4294967296 := ⟨_, rfl⟩
    have hYe : yn1 * 4294967296 + yn0 = Y := by omega
    obtain ⟨Q1, hQ1⟩ : ∃ Q1, Q1 = (u * 4294967296 + un1) / (yn1 * 4294967296 + yn0) := ⟨_, rfl⟩
    obtain ⟨t, ht⟩ : ∃ t, t = (u * 4294967296 + un1) % (yn1 * 4294967296 + yn0) := ⟨_, rfl⟩
    obtain ⟨Q0, hQ0⟩ : ∃ Q0, Q0 = (t * 4294967296 + un0) / (yn1 * 4294967296 + yn0) := ⟨_, rfl⟩
    obtain ⟨R0, hR0⟩ : ∃ R0, R0 = (t * 4294967296 + un0) % (yn1 * 4294967296 + yn0) := ⟨_, rfl⟩
    have htl : t < Y := by rw [ht, hYe]; exact Nat.mod_lt _ (by omega)
    have hRl : R0 < Y := by rw [hR0, hYe]; exact Nat.mod_lt _ (by omega)
    have E1 : u * 4294967296 + un1 = Q1 * Y + t := by
      have := Nat.div_add_mod (u * 4294967296 + un1) (yn1 * 4294967296 + yn0)
      rw [← hQ1, ← ht, hYe, Nat.mul_comm] at this
      exact this.symm
    have E0 : t * 4294967296 + un0 = Q0 * Y + R0 := by
      have := Nat.div_add_mod (t * 4294967296 + un0) (yn1 * 4294967296 + yn0)
      rw [← hQ0, ← hR0, hYe, Nat.mul_comm] at this
      exact this.symm
    have hsum : val hi lo * 2 ^ s = (u * 4294967296 + un1) * 4294967296 + un0 := by
      refine hsp.trans ?_
      rw [Nat.add_mul, Nat.mul_assoc]
      have h2 : v = un1 * 4294967296 + un0 := by rw [hun1, hun0, Nat.mul_comm]; exact (Nat.div_add_mod v 4294967296).symm
      rw [Nat.add_assoc, ← h2]
    obtain ⟨W1, W2⟩ := Kn.whole (Nat.two_pow_pos s) hY hsum E1 E0 hRl
    have hQ1l : Q1 < 4294967296 := by
      rw [hQ1, hYe, Nat.div_lt_iff_lt_mul (by omega)]
      omega
    have hQ0l : Q0 < 4294967296 := by
      rw [hQ0, hYe, Nat.div_lt_iff_lt_mul (by omega)]
      omega
    have hfin : R0 / 2 ^ s = val hi lo % y := by
      rw [← W2, Nat.mul_div_cancel _ (Nat.two_pow_pos s)]
    have g1 := Nat.div_add_mod u yn1
    have g0 := Nat.div_add_mod t yn1
    have hyp : 0 < yn1 := by omega
    have hpow : ((2 : Int) ^ s) = ((2 ^ s : Nat) : Int) := by simp
    have hpow2 : ((2 : Int) ^ (64 - s)) = ((2 ^ (64 - s) : Nat) : Int) := by simp
    have hhi : hi * 2 ^ s < 18446744073709551616 := Nat.lt_of_le_of_lt (by rw [hu]; exact Nat.le_add_right _ _) (Nat.lt_trans huY hn2)
    have main := d_main hi lo y s Y yn1 yn0 u v un1 un0 (u / yn1) (u % yn1) Q1 t (t / yn1) (t % yn1) Q0 R0 hpos hy (by unfold Wd at hyw; omega) (by unfold Wd at hl; omega) hs w
      (fun W => by
        refine (Tryz.bits_LeadingZeros64 (y : Int) W (by omega) (by unfold Wd at hyw; omega)).mono ?_
        rintro e w' ⟨rfl, rfl⟩
        refine ⟨?_, rfl⟩
        rw [Int.toNat_natCast, hlz])
      (by rw [hpow, ← Int.natCast_mul, ← hY]; exact IntWalk.u64_in _ (by omega)) (by omega) (by omega) (by omega) (by omega) (by omega) hYe
      (by have := bits_and_u64_nat Y 4294967295 (by omega) (by omega); rw [show ((4294967295 : Nat) : Int) = 4294967295 from rfl] at this; rw [this, hyn0]; congr 1; exact Nat.and_two_pow_sub_one_eq_mod Y 32)
      (by
        have h1 : IntKind.u64.wrap ((hi : Int) * 2 ^ s) = ((hi * 2 ^ s : Nat) : Int) := by rw [hpow, ← Int.natCast_mul]; exact IntWalk.u64_in _ (by omega)
        rw [h1, hpow2, ← Int.natCast_ediv, bits_or_u64_nat _ _ hhi (Nat.lt_of_le_of_lt (Nat.div_le_self _ _) hl), Kn.shifted hs hl, hu])
      huY
      (by rw [hpow, ← Int.natCast_mul, IntKind.wrap_u64, hv]; omega)
      (by omega)
      (by have := bits_and_u64_nat v 4294967295 hvl (by omega); rw [show ((4294967295 : Nat) : Int) = 4294967295 from rfl] at this; rw [this, hun0]; congr 1; exact Nat.and_two_pow_sub_one_eq_mod v 32)
      (by omega) (by omega) (by omega)
      (by rw [Int.natCast_ediv])
      (by rw [Nat.mul_comm] at g1; rw [← Int.natCast_mul, IntKind.wrap_u64, IntKind.wrap_u64]; omega)
      (by rw [Nat.mul_comm]; exact g1) (Nat.mod_lt _ hyp) hQ1 (by rw [hQ1]; exact Kn.first hyp (by omega))
      (Kn.rest_wrap E1 (by omega)) htl
      (by rw [Int.natCast_ediv])
      (by rw [Nat.mul_comm] at g0; rw [← Int.natCast_mul, IntKind.wrap_u64, IntKind.wrap_u64]; omega)
      (by rw [Nat.mul_comm]; exact g0) (Nat.mod_lt _ hyp) hQ0 (by rw [hQ0]; exact Kn.first hyp (by omega))
      (Kn.rest_wrap E0 (by omega)) hQ1l hQ0l (Nat.le_trans (Nat.div_le_self _ _) (by omega)) (Nat.le_trans (Nat.div_le_self _ _) (by omega)) (by omega) (by omega) (by omega)
    refine main.mono ?_
    rintro e w' ⟨rfl, rfl⟩
    refine ⟨?_, Below.refl _ _⟩
    rw [W1, ← hfin, hpow, ← Int.natCast_ediv, Int.natCast_add, Int.natCast_mul]
    rfl
end Go.Proofs.YtpomllpplpalkaaGreatDoor
namespace Go.Proofs.YtpomllpplpalkaaGreatDoor
set_option linter.unusedVariables false
open Go.ChangeShapes Go.WideShapes Go.ChangeAt Go.RowKit

theorem divVal {ah al b : Nat} (hb : 1 ≤ b) (h1 : Wd ah) (h2 : Wd al) (h3 : Wd b) :
    val ah al / b = val (ah / b) (val (ah % b) al / b) ∧ val ah al % b = val (ah % b) al % b ∧ val (ah % b) al / b < 18446744073709551616 := by
  have hlt : ah % b < b := Nat.mod_lt _ hb
  have e : val ah al = b * (ah / b * 18446744073709551616) + val (ah % b) al := by
    unfold val
    have := Nat.div_add_mod ah b
    conv => lhs; rw [← this, Nat.add_mul, Nat.mul_assoc]
    omega
  have hq : val (ah % b) al / b < 18446744073709551616 := by
    rw [Nat.div_lt_iff_lt_mul hb]
    unfold val Wd at *
    have : (ah % b + 1) * 18446744073709551616 ≤ b * 18446744073709551616 := Nat.mul_le_mul_right _ hlt
    omega
  refine ⟨?_, ?_, hq⟩
  · rw [e, Nat.mul_add_div hb]
    rfl
  · rw [e, Nat.mul_add_mod]

theorem c_Divide (ah al b : Nat) (hb : 1 ≤ b) (h1 : Wd ah) (h2 : Wd al) (h3 : Wd b) (w : World) :
    Calls Tryz.prog 207 #[.agg #[.int .u64 ah, .int .u64 al], .int .u64 b] w fun e w' => e = .returned (.tuple #[.agg #[.int .u64 ((val ah al / b / 18446744073709551616 : Nat) : Int), .int .u64 ((val ah al / b % 18446744073709551616 : Nat) : Int)], .int .u64 ((val ah al % b : Nat) : Int)]) ∧ Gr w w' := by
  obtain ⟨e1, e2, e3⟩ := divVal hb h1 h2 h3
  obtain ⟨q, hq⟩ : ∃ q, q = ah / b := ⟨_, rfl⟩
  obtain ⟨r, hr⟩ : ∃ r, r = ah % b := ⟨_, rfl⟩
  obtain ⟨l, hl⟩ : ∃ l, l = val r al / b := ⟨_, rfl⟩
  obtain ⟨m, hm⟩ : ∃ m, m = val r al % b := ⟨_, rfl⟩
  rw [← hr, ← hl] at e3
  rw [← hq, ← hr, ← hl] at e1
  rw [← hr, ← hm] at e2
  have f1 : val ah al / b / 18446744073709551616 = q := by rw [e1]; unfold val; omega
  have f2 : val ah al / b % 18446744073709551616 = l := by rw [e1]; unfold val; omega
  rw [f1, f2, e2]
  have hqi : (ah : Int) / (b : Int) = (q : Int) := by rw [hq, Int.natCast_ediv]
  have hri : (ah : Int) % (b : Int) = (r : Int) := by rw [hr, Int.natCast_emod]
  have hql : q ≤ 18446744073709551615 := by rw [hq]; have := Nat.div_le_self ah b; unfold Wd at h1; omega
  have hb0 : ((b : Int) == 0) = false := by simp; omega
  have D := c_Div64 r al b (by rw [hr]; exact Nat.mod_lt _ hb) h3 h2
  rw [← hl, ← hm] at D
  have HD := Lib.hid D
  have hb1 : (1 : Int) ≤ (b : Int) := by omega
  clear D e1 e2 e3 f1 f2 hq hr hl hm h1 h2 h3 hb
  go_enter Tryz.func207, Tryz.ntmps207
  go_wp2_with fail
  go_quiet (fail)
  go_wp2_with (go_at_call 230; (with_reducible refine (HD.out _).mono ?_); rintro e w' ⟨rfl, hg⟩; obtain ⟨hc, hf⟩ := bcell hg)
  have hgw : Gr w w' := Gr.trans (Gr.drewN (by go_grown) _) hg
  refine bodyPost_ret (v := .tuple #[.agg #[.int .u64 q, .int .u64 l], .int .u64 m]) (by simp [results, Tryz.results207, go_sem, hc]) rfl ⟨rfl, ?_⟩
  clear hc hf hg
  go_grown
/-- A number below ten to the 19th, in nineteen places. -/
def pad19 (r : Nat) : List UInt8 := List.replicate (19 - Lib.nDigits r) 48 ++ Lib.decDigits r
theorem nDig_le {r k : Nat} (hk : 1 ≤ k) (h : r < 10 ^ k) : Lib.nDigits r ≤ k := by
  induction k generalizing r with
  | zero => omega
  | succ k ih =>
    by_cases h10 : r < 10
    · rw [Lib.nDigits_small h10]; omega
    · rw [Lib.nDigits_big h10]
      have hk1 : 1 ≤ k := by
        rcases Nat.eq_zero_or_pos k with rfl | g
        · simp at h; omega
        · exact g
      have := ih (r := r / 10) hk1 (by rw [Nat.pow_succ] at h; omega)
      omega
theorem dg_mod {u j k : Nat} (h : j < k) : Lib.dg (u % 10 ^ k) j = Lib.dg u j := by
  unfold Lib.dg
  have : u % 10 ^ k / 10 ^ j % 10 = u / 10 ^ j % 10 := by
    obtain ⟨d, rfl⟩ : ∃ d, k = j + 1 + d := ⟨k - (j + 1), by omega⟩
    rw [Nat.pow_add, Nat.pow_succ, Nat.mul_assoc, Nat.mod_mul_right_div_self, Nat.mod_mul_right_mod]
  rw [this]
theorem dg_small {u j : Nat} (h : u < 10 ^ j) : Lib.dg u j = 48 := by
  unfold Lib.dg
  rw [Nat.div_eq_of_lt h]
  rfl
theorem dg_div {u k j : Nat} : Lib.dg (u / 10 ^ k) j = Lib.dg u (k + j) := by
  unfold Lib.dg
  rw [Nat.div_div_eq_div_mul, ← Nat.pow_add]
theorem pad19_eq (r : Nat) (h : r < 10 ^ 19) : pad19 r = (List.range 19).map fun t => Lib.dg r (18 - t) := by
  have hn := nDig_le (by omega) h
  have h1 := Lib.nDigits_pos r
  unfold pad19
  refine List.ext_getElem (by simp [Lib.decDigits_length]; omega) fun i hi1 hi2 => ?_
  simp at hi2
  rw [List.getElem_append]
  split
  · rename_i hlt
    simp at hlt ⊢
    have := Nat.pow_le_pow_right (n := 10) (by omega) (show Lib.nDigits r ≤ 18 - i by omega)
    rw [dg_small (Nat.lt_of_lt_of_le (Lib.lt_pow_nDigits r) this)]
  · rename_i hge
    simp at hge
    have he := Lib.decDigits_eq r
    simp only [he, List.getElem_map, List.getElem_range, List.length_replicate]
    congr 1
    omega
/-- The digits of a number are those of its higher part, then its lower nineteen. -/
theorem digits_split (n : Nat) (h : 10 ^ 19 ≤ n) : Lib.decDigits n = Lib.decDigits (n / 10 ^ 19) ++ pad19 (n % 10 ^ 19) := by
  have hlt : n % 10 ^ 19 < 10 ^ 19 := Nat.mod_lt _ (by omega)
  have hnd : ∀ k n : Nat, 10 ^ k ≤ n → Lib.nDigits n = Lib.nDigits (n / 10 ^ k) + k := by
    intro k
    induction k with
    | zero => intro n _; simp
    | succ k ih =>
      intro n hn
      have h10 : ¬ n < 10 := by
        have := Nat.one_le_two_pow (n := k)
        have h1 : 10 ^ 1 ≤ 10 ^ (k + 1) := Nat.pow_le_pow_right (by omega) (by omega)
        omega
      rw [Lib.nDigits_big h10, ih (n / 10) (by rw [Nat.pow_succ] at hn; omega), Nat.div_div_eq_div_mul, Nat.pow_succ, Nat.mul_comm 10]
      omega
  have hN := hnd 19 n h
  rw [pad19_eq _ hlt, Lib.decDigits_eq n, Lib.decDigits_eq (n / 10 ^ 19), hN]
  generalize Lib.nDigits (n / 10 ^ 19) = m
  refine List.ext_getElem (by simp) fun i hi1 hi2 => ?_
  simp at hi1 hi2
  rw [List.getElem_append]
  split
  · rename_i hl
    simp at hl
    simp only [List.getElem_map, List.getElem_range]
    rw [dg_div]
    congr 1
    omega
  · rename_i hl
    simp at hl
    simp only [List.getElem_map, List.getElem_range, List.length_map, List.length_range]
    rw [dg_mod (by omega)]
    congr 1
    omega

theorem ba_append (a b : List UInt8) : (⟨a.toArray⟩ : ByteArray) ++ ⟨b.toArray⟩ = ⟨(a ++ b).toArray⟩ := by
  apply ByteArray.ext
  simp
/-- What holds at the head of Text's loop: what is left in the cells, what stands in the tail. -/
def TextRel (B N : Nat) (W : World) (k : Nat) (tail : Value) (wr : World) : Prop :=
  ∃ (h l : Nat) (T : List UInt8), Wd h ∧ Wd l ∧ h ≤ k ∧ Lib.decDigits N = Lib.decDigits (val h l) ++ T ∧ T.length ≤ 1000 ∧ tail = .string ⟨T.toArray⟩ ∧
    wr.cell? ⟨B, 0, none⟩ = some (.int .u64 h) ∧ wr.cell? ⟨B, 1, none⟩ = some (.int .u64 l) ∧ wr.frozen? ⟨B, 0, none⟩ = false ∧ wr.frozen? ⟨B, 1, none⟩ = false ∧ B < wr.heap.size ∧ Gr W wr

end Go.Proofs.YtpomllpplpalkaaGreatDoor
namespace Go.Proofs.YtpomllpplpalkaaGreatDoor
set_option linter.unusedVariables false
open Go.ChangeShapes Go.WideShapes Go.ChangeAt Go.RowKit

theorem c_from3 (a0 a1 a2 b0 b1 b2 : Nat) (h0 : Wd a0) (h1 : Wd a1) (k0 : Wd b0) (k1 : Wd b1) (w : World) :
    Calls Tryz.prog 171 #[.int .i64 3, .agg #[.int .u64 a0, .int .u64 a1, .int .u64 a2], .agg #[.int .u64 b0, .int .u64 b1, .int .u64 b2]] w fun e w' => e = .returned (.int .i64 (cmpN (val a2 a1 * 18446744073709551616 + a0) (val b2 b1 * 18446744073709551616 + b0))) ∧ Gr w w' := by
  have hv : cmpN (val a2 a1 * 18446744073709551616 + a0) (val b2 b1 * 18446744073709551616 + b0) = if cmpN a2 b2 = 0 then (if cmpN a1 b1 = 0 then cmpN a0 b0 else cmpN a1 b1) else cmpN a2 b2 := by
    unfold cmpN val Wd at *
    split <;> split <;> (try split) <;> (try split) <;> (try split) <;> (try split) <;> omega
  rcases Nat.lt_trichotomy a2 b2 with h | h | h
  · have e1 := cmpN_lt h
    rw [hv, e1]
    have E1 := Lib.hid e1
    clear hv e1 h0 h1 k0 k1 h
    go_enter Tryz.func171, Tryz.ntmps171
    go_wp2_with (go_at_call 212; refine (c_cmp _ _ _).mono ?_; rw [E1.out]; rintro e w' ⟨rfl, rfl⟩)
    go_ret
    exact ⟨rfl, by go_grown⟩
  · subst h
    have e1 := cmpN_eq (rfl : a2 = a2)
    rw [hv, e1, if_pos rfl]
    have E1 := Lib.hid e1
    clear e1 hv h0 k0
    rcases Nat.lt_trichotomy a1 b1 with h | h | h
    · have e2 := cmpN_lt h
      rw [e2]
      have E2 := Lib.hid e2
      clear e2 h h1 k1
      go_enter Tryz.func171, Tryz.ntmps171
      go_wp2_with (go_at_call 212; refine (c_cmp _ _ _).mono ?_; (first | rw [E1.out] | rw [E2.out]); rintro e w' ⟨rfl, rfl⟩)
      go_ret
      exact ⟨rfl, by go_grown⟩
    · subst h
      have e2 := cmpN_eq (rfl : a1 = a1)
      rw [e2, if_pos rfl]
      have E2 := Lib.hid e2
      clear e2 h1 k1
      go_enter Tryz.func171, Tryz.ntmps171
      go_wp2_with (go_at_call 212; refine (c_cmp _ _ _).mono ?_; (first | rw [E1.out] | rw [E2.out] | skip); rintro e w' ⟨rfl, rfl⟩)
      go_ret
      exact ⟨rfl, by go_grown⟩
    · have e2 := cmpN_gt h
      rw [e2]
      have E2 := Lib.hid e2
      clear e2 h h1 k1
      go_enter Tryz.func171, Tryz.ntmps171
      go_wp2_with (go_at_call 212; refine (c_cmp _ _ _).mono ?_; (first | rw [E1.out] | rw [E2.out]); rintro e w' ⟨rfl, rfl⟩)
      go_ret
      exact ⟨rfl, by go_grown⟩
  · have e1 := cmpN_gt h
    rw [hv, e1]
    have E1 := Lib.hid e1
    clear hv e1 h0 h1 k0 k1 h
    go_enter Tryz.func171, Tryz.ntmps171
    go_wp2_with (go_at_call 212; refine (c_cmp _ _ _).mono ?_; rw [E1.out]; rintro e w' ⟨rfl, rfl⟩)
    go_ret
    exact ⟨rfl, by go_grown⟩

theorem val_words (n : Nat) : val (n / 18446744073709551616) (n % 18446744073709551616) = n := by
  unfold val
  rw [Nat.mul_comm]
  exact Nat.div_add_mod n 18446744073709551616
theorem wd_mod (n : Nat) : Wd (n % 18446744073709551616) := Nat.mod_lt _ (by omega)
/-- CompareProducts: how the products stand, whole. -/
theorem c_CompareProducts (ah al b ch cl d : Nat) (h1 : Wd ah) (h2 : Wd al) (h3 : Wd b) (h4 : Wd ch) (h5 : Wd cl) (h6 : Wd d) (w : World) :
    Calls Tryz.prog 122 #[.agg #[.int .u64 ah, .int .u64 al], .int .u64 b, .agg #[.int .u64 ch, .int .u64 cl], .int .u64 d] w fun e w' => e = .returned (.int .i64 (cmpN (val ah al * b) (val ch cl * d))) ∧ Gr w w' := by
  have T1 := c_Times ah al b h1 h2 h3
  have T2 := c_Times ch cl d h4 h5 h6
  obtain ⟨p, hp⟩ : ∃ p, p = val ah al * b := ⟨_, rfl⟩
  obtain ⟨q, hq⟩ : ∃ q, q = val ch cl * d := ⟨_, rfl⟩
  rw [← hp] at T1 ⊢
  rw [← hq] at T2 ⊢
  obtain ⟨p2, hp2⟩ : ∃ x, x = p / 18446744073709551616 / 18446744073709551616 := ⟨_, rfl⟩
  obtain ⟨p1, hp1⟩ : ∃ x, x = p / 18446744073709551616 % 18446744073709551616 := ⟨_, rfl⟩
  obtain ⟨p0, hp0⟩ : ∃ x, x = p % 18446744073709551616 := ⟨_, rfl⟩
  obtain ⟨q2, hq2⟩ : ∃ x, x = q / 18446744073709551616 / 18446744073709551616 := ⟨_, rfl⟩
  obtain ⟨q1, hq1⟩ : ∃ x, x = q / 18446744073709551616 % 18446744073709551616 := ⟨_, rfl⟩
  obtain ⟨q0, hq0⟩ : ∃ x, x = q % 18446744073709551616 := ⟨_, rfl⟩
  have F := c_from3 p0 p1 p2 q0 q1 q2 (by rw [hp0]; exact wd_mod _) (by rw [hp1]; exact wd_mod _) (by rw [hq0]; exact wd_mod _) (by rw [hq1]; exact wd_mod _)
  rw [← hp2, ← hp1, ← hp0] at T1
  rw [← hq2, ← hq1, ← hq0] at T2
  have ep : val p2 p1 * 18446744073709551616 + p0 = p := by rw [hp2, hp1, val_words, hp0, Nat.mul_comm]; exact Nat.div_add_mod _ _
  have eq : val q2 q1 * 18446744073709551616 + q0 = q := by rw [hq2, hq1, val_words, hq0, Nat.mul_comm]; exact Nat.div_add_mod _ _
  rw [ep, eq] at F
  have HT1 := Lib.hid T1
  have HT2 := Lib.hid T2
  have HF := Lib.hid F
  clear T1 T2 F hp hq hp2 hp1 hp0 hq2 hq1 hq0 ep eq h1 h2 h3 h4 h5 h6
  go_enter Tryz.func122, Tryz.ntmps122
  go_wp2_with fail
  go_at_call 170
  refine (HT1.out _).mono ?_
  rintro e w1 ⟨rfl, hg1⟩
  obtain ⟨hc1, hf1⟩ := bcell hg1
  have hz1 : w.heap.size + 1 < w1.heap.size := by have := hg1.size; simp at this; omega
  go_wp2_with fail
  go_at_call 170
  refine (HT2.out _).mono ?_
  rintro e w2 ⟨rfl, hg2⟩
  obtain ⟨hc2, hf2⟩ := bcell hg2
  have hz2 : w1.heap.size < w2.heap.size := by have := hg2.size; simp at this; omega
  have hz3 : w.heap.size + 1 < w2.heap.size := by omega
  go_wp2_with fail
  go_at_call 171
  refine (HF.out _).mono ?_
  rintro e w3 ⟨rfl, hg3⟩
  go_wp2_with fail
  go_ret
  refine ⟨rfl, ?_⟩
  have g1 : Gr w w1 := Gr.trans (by go_grown) hg1
  have g2 : Gr w w2 := Gr.trans (g1.alloc (by omega) _) hg2
  exact Gr.trans (g2.alloc (by omega) _) hg3

theorem a_Mul (w : World) : Calls Tryz.prog 205 #[.int .u64 9223372036854775808, .int .u64 4] w fun e w' => e = .returned (.agg #[.int .u64 2, .int .u64 0]) ∧ Gr w w' :=
  c_Mul 9223372036854775808 4 (by unfold Wd; omega) (by unfold Wd; omega) w
end Go.Proofs.YtpomllpplpalkaaGreatDoor
namespace Go.Proofs.YtpomllpplpalkaaGreatDoor
set_option linter.unusedVariables false
open Go.ChangeShapes Go.WideShapes Go.ChangeAt Go.RowKit

theorem cmp_neg (a b : Nat) : cmpN a b = -cmpN b a := by unfold cmpN; split <;> split <;> omega
theorem cmp_lt0 (a b : Nat) : decide (cmpN a b < 0) = decide (a < b) := by
  unfold cmpN; split
  · rename_i h; simp [h]
  · rename_i h; split <;> simp [h]

/-- Two numbers of two words, held against each other. -/
theorem eqU (ah al bh bl : Nat) (w : World) : (binOp .eql 179 (.agg #[.int .u64 ah, .int .u64 al]) (.agg #[.int .u64 bh, .int .u64 bl])).run Tryz.prog w = .ok (.bool (decide (ah = bh ∧ al = bl))) w := by
  by_cases h1 : ah = bh
  · subst h1
    by_cases h2 : al = bl
    · subst h2
      simp [go_sem]
    · have e : ((al : Int) == (bl : Int)) = false := by simp; omega
      simp [go_sem, h2, e]
  · have e : ((ah : Int) == (bh : Int)) = false := by simp; omega
    simp [go_sem, h1, e]
theorem val_lt {a b : Nat} (ha : Wd a) (hb : Wd b) : val a b < 340282366920938463463374607431768211456 := by
  unfold val
  have h1 : a * 18446744073709551616 ≤ 18446744073709551615 * 18446744073709551616 := Nat.mul_le_mul_right _ (Nat.le_sub_one_of_lt ha)
  have h2 : b < 18446744073709551616 := hb
  omega
end Go.Proofs.YtpomllpplpalkaaGreatDoor
