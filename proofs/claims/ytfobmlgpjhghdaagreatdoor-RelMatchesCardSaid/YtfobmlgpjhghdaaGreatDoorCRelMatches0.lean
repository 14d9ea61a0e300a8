/- What RelMatches leans on: K H Pa -/
import Derived.Test.YtfobmlgpjhghdaaGreatDoorRows
import Derived.WalkKit
import Derived.ProofKit
import Derived.OpenShut
import Derived.Handy
import Derived.Lib.LaidTab
import Derived.Lib.ItoaMem
import Derived.Lib.Walk
import Derived.Deep.QuietTactic
import Derived.BigQuiet
import Derived.Deep.RegionHeld3
import Derived.Deep.DeepHandedRow
import Derived.Lib.Hide
import Derived.Shelf.Spec.BitsCarry
import Derived.Outline
import Derived.Test.YtfobmlgpjhghdaaGreatDoorShelf
import Derived.BigCall
import Derived.BigGuard
import Derived.Laws.Bits64b
import Derived.Deep.CutBlock
import Derived.Deep.DeepCutAuto
import Derived.Deep.LoopGhost
import Derived.StillTail
namespace Go.Proofs.YtfobmlgpjhghdaaGreatDoor
set_option linter.unusedVariables false
open Go.ChangeShapes Go.WideShapes Go.ChangeAt Go.RowKit
abbrev Gr (w w' : World) : Prop := Below w.heap.size w w'
theorem Gr.trans {a b c : World} (h : Gr a b) (k : Gr b c) : Gr a c := Below.trans h (k.mono h.size)
theorem Gr.of_eq {a b : World} (h : b = a) : Gr a b := by subst h; exact Below.refl _ _
theorem Gr.drewN {a b : World} (h : Gr a b) (n : Nat) : Gr a (b.drewN n) := ⟨h.os, h.tape, h.output, h.size, h.block⟩
theorem bcell {W w1 : World} (hb : Gr W w1) : (∀ b o, b < W.heap.size → w1.cell? ⟨b, o, none⟩ = W.cell? ⟨b, o, none⟩) ∧ (∀ b o, b < W.heap.size → w1.frozen? ⟨b, o, none⟩ = W.frozen? ⟨b, o, none⟩) :=
  ⟨fun b o h => hb.cell (p := ⟨b, o, none⟩) h, fun b o h => hb.frozen (p := ⟨b, o, none⟩) h⟩
theorem cell_gr {a b : World} {p : Addr} {v : Value} (g : Gr a b) (h : a.cell? p = some v) : b.cell? p = some v := (g.cell (World.block_lt_of_cell? a p h)).trans h
theorem frozen_gr {a b : World} {p : Addr} {v : Value} (g : Gr a b) (h : a.cell? p = some v) (hf : a.frozen? p = false) : b.frozen? p = false := (g.frozen (World.block_lt_of_cell? a p h)).trans hf
section
variable {H : Type} {enc : TypeId × Value → H} {P : Program}
theorem trodAll_below (hl : laidOutB P = true) {W W' : World} (hb : Gr W W') {sp : Nat → Bool} :
    ∀ {ts : List TypeId} {vs : List Value} {ds : List (DataW H)} {ps : List MemPlace}, (∀ t ∈ ts, P.readableRec t = true ∧ t < P.types.size) →
      DataW.TrodAll enc P W 0 (fun _ => true) true ts vs ds ps → (∀ x ∈ ps, x.block < W.heap.size) → (∀ x ∈ ps, sp x.block = true) →
      DataW.TrodAll enc P W' 0 sp true ts vs ds ps
  | [], vs, ds, ps, _, h, _, _ => by
    obtain ⟨rfl, rfl, rfl⟩ := trodAll_nil h
    exact trodAll_mk0
  | t :: ts, vs, ds, ps, ht, h, hlt, hsp => by
    obtain ⟨v, vs', d, ds', p, q, rfl, rfl, rfl, h0, hr⟩ := trodAll_cons h
    refine trodAll_cons_mk ?_ (trodAll_below hl hb (fun u hu => ht u (List.mem_cons_of_mem _ hu)) hr (fun x hx => hlt x (List.mem_append_right _ hx)) (fun x hx => hsp x (List.mem_append_right _ hx)))
    exact WideElems.Trod_stays hl (ht t List.mem_cons_self).1 (ht t List.mem_cons_self).2 h0 (fun x hx => hb.same (hlt x (List.mem_append_left _ hx))) (fun x hx => hsp x (List.mem_append_left _ hx))
theorem law_post (hl : laidOutB P = true) {f : Func} {s : ChangeSpec} {W W' : World} {args : Array Value} {ds gs : List (DataW H)} {before : List MemPlace} {tb : TypeId}
    (hts : ∀ t ∈ f.params.toList, P.readableRec t = true ∧ t < P.types.size)
    (hvs : s.vars = []) (hr : f.resultTypes = #[tb]) (htb : P.underlying tb = some .bool)
    (hfn : (s.fn H (ds ++ gs)).results = [.lit (.bool true)] ∧ (s.fn H (ds ++ gs)).args = ds ∧ (s.fn H (ds ++ gs)).vars = [])
    (hW : DataW.Whole enc P f.params.toList s.vars false W args.toList ds gs before) (hb : Gr W W') :
    s.post enc P f false true false false W args (.bool true) W' := by
  have hW' := hW
  obtain ⟨p, q, hA, hV, rfl, hz, hn⟩ := hW
  have hlt : ∀ x ∈ p ++ q, x.block < W.heap.size := fun x hx => hW'.lt x hx
  rw [hvs] at hV
  obtain ⟨rfl, rfl⟩ := trodVars_none hV
  have hsz : f.resultTypes.toList = [tb] := by rw [hr]
  have hrs : (Value.bool true).resultList f.resultTypes.size = [.bool true] := by rw [hr]; rfl
  have hres : ∀ (b : Nat) (sp : Nat → Bool) (hd : Bool), DataW.TrodAll enc P W' b sp hd f.resultTypes.toList ((Value.bool true).resultList f.resultTypes.size) (s.fn H (ds ++ [])).results [] := fun b sp hd => by
    rw [hsz, hrs, hfn.1]
    exact trodAll_cons_mk (shut_bool htb _) trodAll_mk0
  have hargs : ∀ sp : Nat → Bool, (∀ x ∈ p ++ [], sp x.block = true) → DataW.TrodAll enc P W' 0 sp true f.params.toList args.toList (s.fn H (ds ++ [])).args p := fun sp hsp => by
    rw [hfn.2.1]
    exact trodAll_below hl hb hts hA (fun x hx => hlt x (List.mem_append_left _ hx)) (fun x hx => hsp x (List.mem_append_left _ hx))
  have hvars : ∀ sp : Nat → Bool, (∀ x ∈ p ++ [], sp x.block = true) → DataW.TrodVars enc P W' sp s.vars (s.fn H (ds ++ [])).vars [] := fun sp _ => by
    rw [hfn.2.2, hvs]
    rfl
  have hold : ∀ x ∈ p ++ [], (fun b => decide (b < W.heap.size)) x.block = true := fun x hx => by simpa using hlt x hx
  refine ⟨ds, [], p ++ [], [], p, [], hW', hres _ _ _, hargs _ hold, hvars _ hold, World.keptBut_mono (fun x hx => ⟨hx, Or.inr (by simpa using hx)⟩) (hb.frame (· ∈ p ++ [])), fun _ => ?_⟩
  refine ⟨?_, _, _, ([] ++ p) ++ [], ⟨[] ++ p, [], trodAll_append (hargs _ (fun _ _ => rfl)) (hres _ _ _), hvars _ (fun _ _ => rfl), rfl, ?_, ?_⟩, ?_⟩
  · intro j t r h1 h2
    rw [hr] at h1
    rw [hrs] at h2
    cases j with
    | zero =>
      simp at h1 h2
      subst h1 h2
      exact okWide_bool_mk htb _
    | succ j => simp at h1
  · intro b off hp
    have hin : MemPlace.cell b off ∈ p ++ [] := by simpa using hp
    rw [hb.frozen (hlt _ hin)]
    exact hz b off hin
  · intro ha
    cases ha
  · intro x hx _
    simpa using hx
end
end Go.Proofs.YtfobmlgpjhghdaaGreatDoor
namespace Go.Proofs.YtfobmlgpjhghdaaGreatDoor
set_option linter.unusedVariables false
open Go.ChangeShapes Go.WideShapes Go.ChangeAt Go.RowKit
structure More where
  d : Nat
  os : Array Obj
instance : Nonempty More := ⟨⟨0, #[]⟩⟩
def spread (w : World) (m : More) : World := { w with heap := w.heap ++ m.os, drawn := m.d }
theorem gr_spread (w : World) (m : More) : Gr w (spread w m) :=
  ⟨rfl, rfl, rfl, by simp [spread], fun k hk => by simp [spread, Array.getElem?_append, hk]⟩
theorem spread_of_gr {w w' : World} (g : Gr w w') : ∃ m, w' = spread w m := by
  refine ⟨⟨w'.drawn, w'.heap.extract w.heap.size w'.heap.size⟩, ?_⟩
  have hh : w'.heap = w.heap ++ w'.heap.extract w.heap.size w'.heap.size := by
    refine Array.ext_getElem? fun k => ?_
    rw [Array.getElem?_append]
    split
    · rename_i hk
      exact g.block k hk
    · rename_i hk
      rw [Array.getElem?_extract]
      have hs := g.size
      by_cases hk2 : k < w'.heap.size
      · rw [if_pos (by omega), show w.heap.size + (k - w.heap.size) = k by omega]
      · rw [if_neg (by omega), Array.getElem?_eq_none (by omega)]
  obtain ⟨h1, h2, h3, h4, h5⟩ := g
  cases w'
  simp only [spread] at *
  subst h1 h2 h3
  congr
theorem spread_gr {w : World} {m : More} {w' : World} (g : Gr (spread w m) w') : ∃ m', w' = spread w m' := spread_of_gr (Gr.trans (gr_spread w m) g)
@[go_sem] theorem cell?_spread (w : World) (m : More) (a : Addr) (h : (w.cell? a).isSome = true) : (spread w m).cell? a = w.cell? a := by
  obtain ⟨u, hu⟩ := Option.isSome_iff_exists.1 h
  exact (gr_spread w m).cell (World.block_lt_of_cell? w a hu)
theorem wp_region_spread {P : Program} {id : Nat} {Q : Exit → Act → World → Prop} {a : Act} {w : World} {l : List Oper} (hm : P.follows .mixedOrders = true) (hB : Region.lexB .any l.toArray = true)
    (h : wpQuiet P l.toArray (fun w' => ∃ m, w' = spread w m) (fun a' => ∀ w', (∃ m, w' = spread w m) → Q .normal a' w') l a) : (Code.region id l.toArray true).wp P Q a w :=
  wp_region_quiet (C := fun w' => ∃ m, w' = spread w m) hm hB ⟨⟨w.drawn + 1, #[]⟩, by simp [spread]⟩ (by simpa using h)
end Go.Proofs.YtfobmlgpjhghdaaGreatDoor
namespace Go.Proofs.YtfobmlgpjhghdaaGreatDoor
set_option linter.unusedVariables false
open Go.ChangeShapes Go.WideShapes Go.ChangeAt Go.RowKit
def val (hi lo : Nat) : Nat := hi * 18446744073709551616 + lo
def Wd (a : Nat) : Prop := a < 18446744073709551616
def cmpN (a b : Nat) : Int := if a < b then -1 else if b < a then 1 else 0
theorem c_Mul (a b : Nat) (ha : Wd a) (hb : Wd b) (w : World) :
    Calls Tryz.prog 136 #[.int .u64 a, .int .u64 b] w fun e w' => e = .returned (.agg #[.int .u64 (a * b / 18446744073709551616 : Nat), .int .u64 (a * b % 18446744073709551616 : Nat)]) ∧ Gr w w' := by
  go_enter Tryz.func136, Tryz.ntmps136
  go_wp2_with (go_at_call 145; refine (Tryz.bits_Mul64 a b ha hb _).mono ?_; rintro e w' ⟨rfl, rfl⟩)
  go_returns
  exact ⟨rfl, by go_grown⟩
theorem add64 (x y c : Nat) (hc : c ≤ 1) (w : World) : (callFunc 147 #[.int .u64 x, .int .u64 y, .int .u64 c]).run Tryz.prog w =
      .ok (.value (.tuple #[.int .u64 (((x + y + c) % 18446744073709551616 : Nat) : Int), .int .u64 (((x + y + c) / 18446744073709551616 : Nat) : Int)])) w := by
  rw [run_callFunc_extern Tryz.func147 (by kernel_rfl) (by kernel_rfl) (by kernel_rfl) (e := add64Entry) (by kernel_rfl), run_add64 x y c (by omega) (by omega) (by omega) (by omega)]
  simp only [Result.andThen]
  congr 5 <;> omega
theorem cmpN_lt {a b : Nat} (h : a < b) : cmpN a b = -1 := if_pos h
theorem cmpN_gt {a b : Nat} (h : b < a) : cmpN a b = 1 := by unfold cmpN; rw [if_neg (by omega), if_pos h]
theorem cmpN_eq {a b : Nat} (h : a = b) : cmpN a b = 0 := by unfold cmpN; rw [if_neg (by omega), if_neg (by omega)]
theorem c_cmp (a b : Nat) (w : World) :
    Calls Tryz.prog 148 #[.int .u64 a, .int .u64 b] w fun e w' => e = .returned (.int .i64 (cmpN a b)) ∧ w' = w := by
  rcases Nat.lt_trichotomy a b with h | h | h
  · rw [cmpN_lt h]
    have h2 : ¬ b < a := by omega
    go_enter Tryz.func148, Tryz.ntmps148
    go_wp2
    go_ret
    exact ⟨rfl, rfl⟩
  · rw [cmpN_eq h]
    subst h
    go_enter Tryz.func148, Tryz.ntmps148
    go_wp2
    go_ret
    exact ⟨rfl, rfl⟩
  · rw [cmpN_gt h]
    have h2 : ¬ a < b := by omega
    go_enter Tryz.func148, Tryz.ntmps148
    go_wp2
    go_ret
    exact ⟨rfl, rfl⟩
theorem mulHi {a b : Nat} (ha : Wd a) (hb : Wd b) : a * b / 18446744073709551616 ≤ 18446744073709551614 := by
  unfold Wd at *
  have h1 : a * b ≤ 18446744073709551615 * 18446744073709551615 := Nat.mul_le_mul (by omega) (by omega)
  omega
theorem c_Times (ah al b : Nat) (h1 : Wd ah) (h2 : Wd al) (h3 : Wd b) (w : World) :
    Calls Tryz.prog 140 #[.agg #[.int .u64 ah, .int .u64 al], .int .u64 b] w fun e w' => e = .returned (.tuple #[.int .u64 ((val ah al * b / 18446744073709551616 / 18446744073709551616 : Nat) : Int), .agg #[.int .u64 ((val ah al * b / 18446744073709551616 % 18446744073709551616 : Nat) : Int), .int .u64 ((val ah al * b % 18446744073709551616 : Nat) : Int)]]) ∧ Gr w w' := by
  have H1 := mulHi h2 h3
  have H2 := mulHi h1 h3
  have hp : val ah al * b = ah * b * 18446744073709551616 + al * b := by unfold val; rw [Nat.add_mul, Nat.mul_right_comm]
  obtain ⟨p, hp1⟩ : ∃ p, p = ah * b := ⟨_, rfl⟩
  obtain ⟨q, hq1⟩ : ∃ q, q = al * b := ⟨_, rfl⟩
  obtain ⟨ca, hca⟩ : ∃ ca, ca = q / 18446744073709551616 := ⟨_, rfl⟩
  obtain ⟨lo, hlo⟩ : ∃ lo, lo = q % 18446744073709551616 := ⟨_, rfl⟩
  obtain ⟨t0, ht0⟩ : ∃ t0, t0 = p / 18446744073709551616 := ⟨_, rfl⟩
  obtain ⟨h0, hh0⟩ : ∃ h0, h0 = p % 18446744073709551616 := ⟨_, rfl⟩
  obtain ⟨hi, hhi⟩ : ∃ hi, hi = (h0 + ca) % 18446744073709551616 := ⟨_, rfl⟩
  obtain ⟨cy, hcy⟩ : ∃ cy, cy = (h0 + ca) / 18446744073709551616 := ⟨_, rfl⟩
  have f1 : val ah al * b / 18446744073709551616 / 18446744073709551616 = t0 + cy := by rw [hp, ← hp1, ← hq1]; omega
  have f2 : val ah al * b / 18446744073709551616 % 18446744073709551616 = hi := by rw [hp, ← hp1, ← hq1]; omega
  have f3 : val ah al * b % 18446744073709551616 = lo := by rw [hp, ← hp1, ← hq1]; omega
  rw [f1, f2, f3]
  have ht : t0 + cy ≤ 18446744073709551615 := by rw [← hp1] at H2; rw [← hq1] at H1; omega
  have m1 : ∀ W, Calls Tryz.prog 145 #[.int .u64 al, .int .u64 b] W fun e w' => e = .returned (.tuple #[.int .u64 ca, .int .u64 lo]) ∧ w' = W := fun W => by
    have := Tryz.bits_Mul64 al b h2 h3 W
    rw [← hq1, ← hca, ← hlo] at this; exact this
  have m2 : ∀ W, Calls Tryz.prog 145 #[.int .u64 ah, .int .u64 b] W fun e w' => e = .returned (.tuple #[.int .u64 t0, .int .u64 h0]) ∧ w' = W := fun W => by
    have := Tryz.bits_Mul64 ah b h1 h3 W
    rw [← hp1, ← ht0, ← hh0] at this; exact this
  have e1 : ∀ W, (callFunc 147 #[.int .u64 h0, .int .u64 ca, .int .u64 0]).run Tryz.prog W = .ok (.value (.tuple #[.int .u64 hi, .int .u64 cy])) W := fun W => by
    have := add64 h0 ca 0 (by omega) W
    rw [Nat.add_zero, ← hhi, ← hcy] at this; exact this
  have M1 := Lib.hid m1
  have M2 := Lib.hid m2
  clear m1 m2 f1 f2 f3 hp hp1 hq1 hca hlo ht0 hh0 hhi hcy H1 H2
  go_enter Tryz.func140, Tryz.ntmps140
  go_wp2_with (go_at_call 145; first | ((with_reducible refine (M1.out _).mono ?_); rintro e w' ⟨rfl, rfl⟩) | ((with_reducible refine (M2.out _).mono ?_); rintro e w' ⟨rfl, rfl⟩))
  go_returns
  exact ⟨rfl, by go_grown⟩
end Go.Proofs.YtfobmlgpjhghdaaGreatDoor
namespace Go.Proofs.YtfobmlgpjhghdaaGreatDoor.Kn
set_option linter.unusedVariables false
open Go
theorem parts {a b c q : Nat} : q * (a * c + b) = q * a * c + q * b := by rw [Nat.mul_add, Nat.mul_assoc]
theorem gt {yn1 yn0 u d q r : Nat} (hr : q * yn1 + r = u) (hd : d < 4294967296) (hu : u < yn1 * 4294967296 + yn0)
    (h : 4294967296 ≤ q ∨ 4294967296 * r + d < q * yn0) : (u * 4294967296 + d) / (yn1 * 4294967296 + yn0) < q := by
  have hy : 0 < yn1 * 4294967296 + yn0 := by omega
  rw [Nat.div_lt_iff_lt_mul hy]
  rcases h with h | h
  · have h1 : u * 4294967296 + d < (yn1 * 4294967296 + yn0) * 4294967296 := by omega
    have h2 : (yn1 * 4294967296 + yn0) * 4294967296 ≤ (yn1 * 4294967296 + yn0) * q := Nat.mul_le_mul_left _ h
    rw [Nat.mul_comm q]
    omega
  · rw [parts]
    omega
theorem eq {yn1 yn0 u d q r : Nat} (hr : q * yn1 + r = u) (hd : d < 4294967296) (hu : u < yn1 * 4294967296 + yn0)
    (hq : (u * 4294967296 + d) / (yn1 * 4294967296 + yn0) ≤ q) (h : q * yn0 ≤ 4294967296 * r + d) : (u * 4294967296 + d) / (yn1 * 4294967296 + yn0) = q := by
  have hy : 0 < yn1 * 4294967296 + yn0 := by omega
  refine Nat.le_antisymm hq ?_
  rw [Nat.le_div_iff_mul_le hy, parts]
  omega
theorem eq_break {yn1 yn0 u d q r : Nat} (hr : q * yn1 + r = u) (hd : d < 4294967296) (hu : u < yn1 * 4294967296 + yn0) (h0 : yn0 < 4294967296)
    (hq : (u * 4294967296 + d) / (yn1 * 4294967296 + yn0) ≤ q) (h : 4294967296 ≤ r) : (u * 4294967296 + d) / (yn1 * 4294967296 + yn0) = q := by
  refine eq hr hd hu hq ?_
  have h1 : q * yn1 < 4294967296 * yn1 := by omega
  have h2 : q < 4294967296 := Nat.lt_of_mul_lt_mul_right h1
  have h3 : q * yn0 ≤ 4294967295 * 4294967295 := Nat.mul_le_mul (by omega) (by omega)
  omega
theorem first {yn1 yn0 u d : Nat} (h1 : 1 ≤ yn1) (hd : d < 4294967296) : (u * 4294967296 + d) / (yn1 * 4294967296 + yn0) ≤ u / yn1 := by
  have hy : 0 < yn1 * 4294967296 + yn0 := by omega
  have hlt : u < (u / yn1 + 1) * yn1 := by rw [← Nat.div_lt_iff_lt_mul h1]; omega
  have : (u * 4294967296 + d) / (yn1 * 4294967296 + yn0) < u / yn1 + 1 := by
    rw [Nat.div_lt_iff_lt_mul hy, parts]
    have : u + 1 ≤ (u / yn1 + 1) * yn1 := hlt
    omega
  omega
theorem whole {n y S Y Q1 R1 Q0 R0 t l : Nat} (hS : 0 < S) (hY : Y = y * S) (hn : n * S = t * 4294967296 + l)
    (h1 : t = Q1 * Y + R1) (h0 : R1 * 4294967296 + l = Q0 * Y + R0) (hR : R0 < Y) :
    n / y = Q1 * 4294967296 + Q0 ∧ n % y * S = R0 := by
  have e : n * S = (Q1 * 4294967296 + Q0) * Y + R0 := by
    rw [hn, h1, Nat.add_mul, Nat.add_mul, Nat.mul_right_comm]
    omega
  constructor
  · rw [← Nat.mul_div_mul_right n y hS, ← hY, e, Nat.mul_comm (_ + _) Y, Nat.mul_add_div (by omega), Nat.div_eq_of_lt hR, Nat.add_zero]
  · rw [← Nat.mul_mod_mul_right, ← hY, e, Nat.mul_comm (_ + _) Y, Nat.mul_add_mod, Nat.mod_eq_of_lt hR]
theorem shifted {hi lo s : Nat} (hs : s ≤ 63) (hl : lo < 18446744073709551616) : (hi * 2 ^ s) ||| (lo / 2 ^ (64 - s)) = hi * 2 ^ s + lo / 2 ^ (64 - s) := by
  have hb : lo / 2 ^ (64 - s) < 2 ^ s := by
    rw [Nat.div_lt_iff_lt_mul (Nat.two_pow_pos _), ← Nat.pow_add, show s + (64 - s) = 64 by omega]
    exact hl
  rw [Nat.mul_comm, Nat.two_pow_add_eq_or_of_lt hb]
theorem split {hi lo s : Nat} (hs : s ≤ 63) (hl : lo < 18446744073709551616) : (hi * 18446744073709551616 + lo) * 2 ^ s = (hi * 2 ^ s + lo / 2 ^ (64 - s)) * 18446744073709551616 + lo * 2 ^ s % 18446744073709551616 := by
  have e : (18446744073709551616 : Nat) = 2 ^ (64 - s) * 2 ^ s := by rw [← Nat.pow_add, show 64 - s + s = 64 by omega]
  have h1 : lo * 2 ^ s % 18446744073709551616 = lo % 2 ^ (64 - s) * 2 ^ s := by rw [e, Nat.mul_mod_mul_right]
  have h2 := Nat.div_add_mod lo (2 ^ (64 - s))
  rw [h1, Nat.add_mul, Nat.add_mul, Nat.add_assoc, Nat.mul_right_comm]
  congr 1
  conv => lhs; rw [← h2, Nat.add_mul]
  congr 1
  rw [Nat.mul_comm (2 ^ (64 - s)), Nat.mul_assoc, ← e]
theorem rest_wrap {u d q Y R : Nat} (h : u * 4294967296 + d = q * Y + R) (hR : R < 18446744073709551616) :
    IntKind.u64.wrap (IntKind.u64.wrap (IntKind.u64.wrap ((u : Int) * 4294967296) + (d : Int)) - IntKind.u64.wrap ((q : Int) * (Y : Int))) = (R : Int) := by
  simp only [IntKind.wrap_u64]
  obtain ⟨p, hp⟩ : ∃ p : Nat, p = q * Y := ⟨_, rfl⟩
  have hc : (q : Int) * (Y : Int) = (p : Int) := by rw [hp]; simp
  rw [hc]
  rw [← hp] at h
  omega
end Go.Proofs.YtfobmlgpjhghdaaGreatDoor.Kn
namespace Go.Proofs.YtfobmlgpjhghdaaGreatDoor
set_option linter.unusedVariables false
open Go.ChangeShapes Go.WideShapes Go.ChangeAt Go.RowKit
def DigRel (u yn1 Q : Nat) (q r : Value) : Prop := ∃ a b : Nat, q = .int .u64 a ∧ r = .int .u64 b ∧ a * yn1 + b = u ∧ Q ≤ a ∧ b < 4294967296
set_option maxHeartbeats 4000000 in
set_option maxRecDepth 100000 in
theorem d_main (hi lo y s Y yn1 yn0 u v un1 un0 g1 r1 Q1 t g0 r0 Q0 R0 : Nat) (h0 : 1 ≤ hi) (hy : hi < y) (hyw : y ≤ 18446744073709551615) (hl : lo ≤ 18446744073709551615) (hs : s ≤ 63) (w : World)
    (hz : ∀ W, Calls Tryz.prog 150 #[.int .u64 y] W fun e w' => e = .returned (.int .i64 s) ∧ W = w')
    (hY : IntKind.u64.wrap ((y : Int) * 2 ^ s) = (Y : Int)) (hYl : Y ≤ 18446744073709551615) (h1 : (Y : Int) / 4294967296 = (yn1 : Int)) (hyn : 2147483648 ≤ yn1) (hyn1 : yn1 < 4294967296) (hyn0 : yn0 < 4294967296) (hYe : yn1 * 4294967296 + yn0 = Y)
    (hA : bits BinOp.and IntKind.u64 (Y : Int) 4294967295 = (yn0 : Int))
    (hO : bits BinOp.or IntKind.u64 (IntKind.u64.wrap ((hi : Int) * 2 ^ s)) ((lo : Int) / 2 ^ (64 - s)) = (u : Int)) (hu : u < Y)
    (hL : IntKind.u64.wrap ((lo : Int) * 2 ^ s) = (v : Int)) (hL1 : (v : Int) / 4294967296 = (un1 : Int)) (hL0 : bits BinOp.and IntKind.u64 (v : Int) 4294967295 = (un0 : Int)) (hun1 : un1 < 4294967296) (hun0 : un0 < 4294967296) (hvl : v ≤ 18446744073709551615)
    (hg1 : (u : Int) / (yn1 : Int) = (g1 : Int)) (hr1 : IntKind.u64.wrap ((u : Int) - IntKind.u64.wrap ((g1 : Int) * (yn1 : Int))) = (r1 : Int)) (hgr1 : g1 * yn1 + r1 = u) (hr1l : r1 < yn1) (hQ1 : Q1 = (u * 4294967296 + un1) / (yn1 * 4294967296 + yn0)) (hQg1 : Q1 ≤ g1)
    (ht : IntKind.u64.wrap (IntKind.u64.wrap (IntKind.u64.wrap ((u : Int) * 4294967296) + (un1 : Int)) - IntKind.u64.wrap ((Q1 : Int) * (Y : Int))) = (t : Int)) (htl : t < Y)
    (hg0 : (t : Int) / (yn1 : Int) = (g0 : Int)) (hr0 : IntKind.u64.wrap ((t : Int) - IntKind.u64.wrap ((g0 : Int) * (yn1 : Int))) = (r0 : Int)) (hgr0 : g0 * yn1 + r0 = t) (hr0l : r0 < yn1) (hQ0 : Q0 = (t * 4294967296 + un0) / (yn1 * 4294967296 + yn0)) (hQg0 : Q0 ≤ g0)
    (hR : IntKind.u64.wrap (IntKind.u64.wrap (IntKind.u64.wrap ((t : Int) * 4294967296) + (un0 : Int)) - IntKind.u64.wrap ((Q0 : Int) * (Y : Int))) = (R0 : Int)) (hQ1l : Q1 < 4294967296) (hQ0l : Q0 < 4294967296) (hg1l : g1 ≤ 18446744073709551615) (hg0l : g0 ≤ 18446744073709551615) (hul : u ≤ 18446744073709551615) (htl2 : t ≤ 18446744073709551615) (hR0l : R0 ≤ 18446744073709551615) :
    Calls Tryz.prog 146 #[.int .u64 hi, .int .u64 lo, .int .u64 y] w fun e w' => e = .returned (.tuple #[.int .u64 ((Q1 : Int) * 4294967296 + (Q0 : Int)), .int .u64 ((R0 : Int) / 2 ^ s)]) ∧ w = w' := by
  have HZ := Lib.hid hz
  have HYe := Lib.hid hYe
  have Hgr1 := Lib.hid hgr1
  have Hgr0 := Lib.hid hgr0
  have HQ1 := Lib.hid hQ1
  have HQ0 := Lib.hid hQ0
  clear hz hYe hgr1 hgr0 hQ1 hQ0
  go_enter Tryz.func146, Tryz.ntmps146
  go_upto_block 0 with (go_at_call 150; refine (HZ.out _).mono ?_; rintro e w' ⟨rfl, rfl⟩)
  go_cut [15] (fun c wx => c = .int .u64 Q1 ∧ w = wx)
  case first =>
    go_wp2_with fail
    go_loop [15, 16] (fun c d => DigRel u yn1 Q1 c d) (fun c _ => (intOf c).toNat)
    case atStart => exact ⟨g1, r1, rfl, rfl, Hgr1.out, hQg1, by omega⟩
    case round =>
      obtain ⟨a, b, rfl, rfl, hab, hQa, hb⟩ := hrel
      have hau : a ≤ u := by
        have h1 : a * 1 ≤ a * yn1 := Nat.mul_le_mul_left a (by omega)
        omega
      have Hab := Lib.hid hab
      clear hab
      by_cases hA4 : (4294967296 : Int) ≤ (a : Int)
      · have hqa : Q1 < a := by
          have := Kn.gt (yn0 := yn0) Hab.out hun1 (by have := HYe.out; omega) (Or.inl (by omega))
          rw [← HQ1.out] at this
          exact this
        have HPOS := Lib.hid (Nat.le_sub_one_of_lt hqa)
        have ha1 : (1 : Int) ≤ (a : Int) := by omega
        clear hqa
        have hnext : (a - 1) * yn1 + (b + yn1) = u := by
          have h1 := Hab.out
          have h2 : a * yn1 = (a - 1) * yn1 + yn1 := by rw [← Nat.succ_mul]; congr 1; omega
          omega
        obtain ⟨c, hc⟩ : ∃ c : Nat, c = b + yn1 := ⟨_, rfl⟩
        have hci : (b : Int) + (yn1 : Int) = (c : Int) := by omega
        have hcl : c < 8589934592 := by omega
        rw [← hc] at hnext
        clear hc
        by_cases hb2 : (c : Int) < 4294967296
        · have HN := Lib.hid hnext
          clear hnext
          have hd2 : decide ((4294967296 : Int) ≤ (c : Int)) = false := decide_eq_false (by omega)
          go_wp2
          go_round
          case rel => exact ⟨a - 1, c, by go_num, by go_num, HN.out, HPOS.out, by omega⟩
          case measure => simp [intOf]; omega
        · have hd2 : decide ((4294967296 : Int) ≤ (c : Int)) = true := decide_eq_true (by omega)
          have hfin := Kn.eq_break (yn0 := yn0) hnext hun1 (by have := HYe.out; omega) hyn0 (by rw [← HQ1.out]; exact HPOS.out) (by omega)
          rw [← HQ1.out] at hfin
          have HF := Lib.hid hfin
          clear hfin hnext
          go_wp2
          go_meet
          exact ⟨by have := HF.out; go_num, rfl⟩
      · obtain ⟨p, hp⟩ : ∃ p : Nat, p = a * yn0 := ⟨_, rfl⟩
        have hpl : p ≤ 4294967295 * 4294967295 := by rw [hp]; exact Nat.mul_le_mul (by omega) (by omega)
        have hpi : (a : Int) * (yn0 : Int) = (p : Int) := by rw [hp]; simp
        have HP := Lib.hid hp
        clear hp
        have hA5 : decide ((4294967296 : Int) ≤ (a : Int)) = false := decide_eq_false hA4
        by_cases hgt : (4294967296 : Int) * (b : Int) + (un1 : Int) < (p : Int)
        · have hgt2 : decide ((4294967296 : Int) * (b : Int) + (un1 : Int) < (p : Int)) = true := decide_eq_true hgt
          have hqa : Q1 < a := by
            have := Kn.gt (yn0 := yn0) Hab.out hun1 (by have := HYe.out; omega) (Or.inr (by rw [← HP.out]; omega))
            rw [← HQ1.out] at this
            exact this
          have HPOS := Lib.hid (Nat.le_sub_one_of_lt hqa)
          have ha1 : (1 : Int) ≤ (a : Int) := by omega
          clear hqa
          have hnext : (a - 1) * yn1 + (b + yn1) = u := by
            have h1 := Hab.out
            have h2 : a * yn1 = (a - 1) * yn1 + yn1 := by rw [← Nat.succ_mul]; congr 1; omega
            omega
          obtain ⟨c, hc⟩ : ∃ c : Nat, c = b + yn1 := ⟨_, rfl⟩
          have hci : (b : Int) + (yn1 : Int) = (c : Int) := by omega
          have hcl : c < 8589934592 := by omega
          rw [← hc] at hnext
          clear hc
          by_cases hb2 : (c : Int) < 4294967296
          · have HN := Lib.hid hnext
            clear hnext
            have hd2 : decide ((4294967296 : Int) ≤ (c : Int)) = false := decide_eq_false (by omega)
            go_wp2
            go_round
            case rel => exact ⟨a - 1, c, by go_num, by go_num, HN.out, HPOS.out, by omega⟩
            case measure => simp [intOf]; omega
          · have hd2 : decide ((4294967296 : Int) ≤ (c : Int)) = true := decide_eq_true (by omega)
            have hfin := Kn.eq_break (yn0 := yn0) hnext hun1 (by have := HYe.out; omega) hyn0 (by rw [← HQ1.out]; exact HPOS.out) (by omega)
            rw [← HQ1.out] at hfin
            have HF := Lib.hid hfin
            clear hfin hnext
            go_wp2
            go_meet
            exact ⟨by have := HF.out; go_num, rfl⟩
        · have hfin := Kn.eq (yn0 := yn0) Hab.out hun1 (by have := HYe.out; omega) (by rw [← HQ1.out]; exact hQa) (by rw [← HP.out]; omega)
          rw [← HQ1.out] at hfin
          have HF := Lib.hid hfin
          clear hfin
          go_wp2
          go_meet
          exact ⟨by have := HF.out; go_num, rfl⟩
  case rest =>
    obtain ⟨rfl, rfl⟩ := hcut
    go_upto_block 2 with fail
    go_cut [18] (fun c wx => c = .int .u64 Q0 ∧ w = wx)
    case first =>
      go_wp2_with fail
      go_loop [18, 16] (fun c d => DigRel t yn1 Q0 c d) (fun c _ => (intOf c).toNat)
      case atStart => exact ⟨g0, r0, rfl, rfl, Hgr0.out, hQg0, by omega⟩
      case round =>
        obtain ⟨a, b, rfl, rfl, hab, hQa, hb⟩ := hrel
        have hau : a ≤ t := by
          have h1 : a * 1 ≤ a * yn1 := Nat.mul_le_mul_left a (by omega)
          omega
        have Hab := Lib.hid hab
        clear hab
        by_cases hA4 : (4294967296 : Int) ≤ (a : Int)
        · have hqa : Q0 < a := by
            have := Kn.gt (yn0 := yn0) Hab.out hun0 (by have := HYe.out; omega) (Or.inl (by omega))
            rw [← HQ0.out] at this
            exact this
          have HPOS := Lib.hid (Nat.le_sub_one_of_lt hqa)
          have ha1 : (1 : Int) ≤ (a : Int) := by omega
          clear hqa
          have hnext : (a - 1) * yn1 + (b + yn1) = t := by
            have h1 := Hab.out
            have h2 : a * yn1 = (a - 1) * yn1 + yn1 := by rw [← Nat.succ_mul]; congr 1; omega
            omega
          obtain ⟨c, hc⟩ : ∃ c : Nat, c = b + yn1 := ⟨_, rfl⟩
          have hci : (b : Int) + (yn1 : Int) = (c : Int) := by omega
          have hcl : c < 8589934592 := by omega
          rw [← hc] at hnext
          clear hc
          by_cases hb2 : (c : Int) < 4294967296
          · have HN := Lib.hid hnext
            clear hnext
            have hd2 : decide ((4294967296 : Int) ≤ (c : Int)) = false := decide_eq_false (by omega)
            go_wp2
            go_round
            case rel => exact ⟨a - 1, c, by go_num, by go_num, HN.out, HPOS.out, by omega⟩
            case measure => simp [intOf]; omega
          · have hd2 : decide ((4294967296 : Int) ≤ (c : Int)) = true := decide_eq_true (by omega)
            have hfin := Kn.eq_break (yn0 := yn0) hnext hun0 (by have := HYe.out; omega) hyn0 (by rw [← HQ0.out]; exact HPOS.out) (by omega)
            rw [← HQ0.out] at hfin
            have HF := Lib.hid hfin
            clear hfin hnext
            go_wp2
            go_meet
            exact ⟨by have := HF.out; go_num, rfl⟩
        · obtain ⟨p, hp⟩ : ∃ p : Nat, p = a * yn0 := ⟨_, rfl⟩
          have hpl : p ≤ 4294967295 * 4294967295 := by rw [hp]; exact Nat.mul_le_mul (by omega) (by omega)
          have hpi : (a : Int) * (yn0 : Int) = (p : Int) := by rw [hp]; simp
          have HP := Lib.hid hp
          clear hp
          have hA5 : decide ((4294967296 : Int) ≤ (a : Int)) = false := decide_eq_false hA4
          by_cases hgt : (4294967296 : Int) * (b : Int) + (un0 : Int) < (p : Int)
          · have hgt2 : decide ((4294967296 : Int) * (b : Int) + (un0 : Int) < (p : Int)) = true := decide_eq_true hgt
            have hqa : Q0 < a := by
              have := Kn.gt (yn0 := yn0) Hab.out hun0 (by have := HYe.out; omega) (Or.inr (by rw [← HP.out]; omega))
              rw [← HQ0.out] at this
              exact this
            have HPOS := Lib.hid (Nat.le_sub_one_of_lt hqa)
            have ha1 : (1 : Int) ≤ (a : Int) := by omega
            clear hqa
            have hnext : (a - 1) * yn1 + (b + yn1) = t := by
              have h1 := Hab.out
              have h2 : a * yn1 = (a - 1) * yn1 + yn1 := by rw [← Nat.succ_mul]; congr 1; omega
              omega
            obtain ⟨c, hc⟩ : ∃ c : Nat, c = b + yn1 := ⟨_, rfl⟩
            have hci : (b : Int) + (yn1 : Int) = (c : Int) := by omega
            have hcl : c < 8589934592 := by omega
            rw [← hc] at hnext
            clear hc
            by_cases hb2 : (c : Int) < 4294967296
            · have HN := Lib.hid hnext
              clear hnext
              have hd2 : decide ((4294967296 : Int) ≤ (c : Int)) = false := decide_eq_false (by omega)
              go_wp2
              go_round
              case rel => exact ⟨a - 1, c, by go_num, by go_num, HN.out, HPOS.out, by omega⟩
              case measure => simp [intOf]; omega
            · have hd2 : decide ((4294967296 : Int) ≤ (c : Int)) = true := decide_eq_true (by omega)
              have hfin := Kn.eq_break (yn0 := yn0) hnext hun0 (by have := HYe.out; omega) hyn0 (by rw [← HQ0.out]; exact HPOS.out) (by omega)
              rw [← HQ0.out] at hfin
              have HF := Lib.hid hfin
              clear hfin hnext
              go_wp2
              go_meet
              exact ⟨by have := HF.out; go_num, rfl⟩
          · have hfin := Kn.eq (yn0 := yn0) Hab.out hun0 (by have := HYe.out; omega) (by rw [← HQ0.out]; exact hQa) (by rw [← HP.out]; omega)
            rw [← HQ0.out] at hfin
            have HF := Lib.hid hfin
            clear hfin
            go_wp2
            go_meet
            exact ⟨by have := HF.out; go_num, rfl⟩
    case rest =>
      obtain ⟨rfl, rfl⟩ := hcut
      go_wp2
      go_ret2
      exact ⟨rfl, rfl⟩
theorem norm {y : Nat} (h1 : 1 ≤ y) (h : Wd y) : ∃ s : Nat, s ≤ 63 ∧ 64 - (Lib.bitLen y : Int) = (s : Int) ∧ 9223372036854775808 ≤ y * 2 ^ s ∧ y * 2 ^ s < 18446744073709551616 := by
  obtain ⟨b1, b2, b3⟩ := Lib.bitLenAux_bounds 64 y h (by omega)
  have hb : Lib.bitLenAux 64 y ≤ 64 := by
    rcases Nat.lt_or_ge 64 (Lib.bitLenAux 64 y) with g | g
    · exfalso
      have := Nat.pow_le_pow_right (n := 2) (by omega) (show 64 ≤ Lib.bitLenAux 64 y - 1 by omega)
      unfold Wd at h
      omega
    · exact g
  obtain ⟨k, hk⟩ : ∃ k, k = Lib.bitLenAux 64 y := ⟨_, rfl⟩
  have hbl : Lib.bitLen y = k := by rw [hk]; rfl
  rw [← hk] at b1 b2 b3 hb
  refine ⟨64 - k, by omega, by rw [hbl]; omega, ?_, ?_⟩
  · have h2 : 2 ^ (k - 1) * 2 ^ (64 - k) ≤ y * 2 ^ (64 - k) := Nat.mul_le_mul_right _ b2
    rw [← Nat.pow_add, show k - 1 + (64 - k) = 63 by omega] at h2
    exact h2
  · have h2 : y * 2 ^ (64 - k) < 2 ^ k * 2 ^ (64 - k) := Nat.mul_lt_mul_of_pos_right b3 (Nat.two_pow_pos _)
    rw [← Nat.pow_add, show k + (64 - k) = 64 by omega] at h2
    exact h2
theorem d_zero (lo y : Nat) (h1 : 1 ≤ y) (hyw : Wd y) (hl : Wd lo) (w : World) :
    Calls Tryz.prog 146 #[.int .u64 0, .int .u64 lo, .int .u64 y] w fun e w' => e = .returned (.tuple #[.int .u64 ((lo / y : Nat) : Int), .int .u64 ((lo % y : Nat) : Int)]) ∧ Gr w w' := by
  unfold Wd at hyw hl
  have hd0 : (((y : Nat) : Int) == 0) = false := by simp; omega
  have hd1 : decide ((y : Int) ≤ 0) = false := decide_eq_false (by omega)
  have hq : lo / y ≤ 18446744073709551615 := Nat.le_trans (Nat.div_le_self _ _) (by omega)
  have hr : lo % y ≤ 18446744073709551615 := Nat.le_trans (Nat.mod_le _ _) (by omega)
  go_enter Tryz.func146, Tryz.ntmps146
  go_wp2
  go_quiet (fail)
  go_wp2
  go_ret2
  have e1 : IntKind.u64.wrap ((lo : Int) / (y : Int)) = ((lo / y : Nat) : Int) := by rw [← Int.natCast_ediv]; generalize lo / y = k at hq; exact IntWalk.u64_in _ (by omega)
  refine ⟨?_, Gr.drewN (Below.refl _ _) _⟩
  show Ending.returned (.tuple #[.int .u64 (IntKind.u64.wrap ((lo : Int) / (y : Int))), .int .u64 ((lo : Int) % (y : Int))]) = _
  rw [e1, ← Int.natCast_emod]
theorem c_Div64 (hi lo y : Nat) (hy : hi < y) (hyw : Wd y) (hl : Wd lo) (w : World) :
    Calls Tryz.prog 146 #[.int .u64 hi, .int .u64 lo, .int .u64 y] w fun e w' => e = .returned (.tuple #[.int .u64 ((val hi lo / y : Nat) : Int), .int .u64 ((val hi lo % y : Nat) : Int)]) ∧ Gr w w' := by
  rcases Nat.eq_zero_or_pos hi with rfl | hpos
  · have e : val 0 lo = lo := by unfold val; omega
    rw [e]
    exact d_zero lo y hy hyw hl w
  · have hy1 : 1 ≤ y := by omega
    obtain ⟨s, hs, hlz, hn1, hn2⟩ := norm hy1 hyw
    obtain ⟨Y, hY⟩ : ∃ Y, Y = y * 2 ^ s := ⟨_, rfl⟩
    obtain ⟨u, hu⟩ : ∃ u, u = hi * 2 ^ s + lo / 2 ^ (64 - s) := ⟨_, rfl⟩
    obtain ⟨v, hv⟩ : ∃ v, v = lo * 2 ^ s % 18446744073709551616 := ⟨_, rfl⟩
    have hsp := Kn.split (hi := hi) hs hl
    rw [← hu, ← hv] at hsp
    have hlo : lo / 2 ^ (64 - s) < 2 ^ s := by
      rw [Nat.div_lt_iff_lt_mul (Nat.two_pow_pos _), ← Nat.pow_add, show s + (64 - s) = 64 by omega]
      exact hl
    have huY : u < Y := by
      have h1 : hi * 2 ^ s + 2 ^ s ≤ y * 2 ^ s := by rw [← Nat.succ_mul]; exact Nat.mul_le_mul_right _ hy
      omega
    rw [← hY] at hn1 hn2
    have hvl : v < 18446744073709551616 := by rw [hv]; exact Nat.mod_lt _ (by omega)
    obtain ⟨yn1, hyn1⟩ : ∃ yn1, yn1 = Y / 4294967296 := ⟨_, rfl⟩
    obtain ⟨yn0, hyn0⟩ : ∃ yn0, yn0 = Y % 4294967296 := ⟨_, rfl⟩
    obtain ⟨un1, hun1⟩ : ∃ un1, un1 = v / 4294967296 := ⟨_, rfl⟩
    obtain ⟨un0, hun0⟩ : ∃ un0, un0 = v % 4294967296 := ⟨_, rfl⟩
    have hYe : yn1 * 4294967296 + yn0 = Y := by omega
    obtain ⟨Q1, hQ1⟩ : ∃ Q1, Q1 = (u * 4294967296 + un1) / (yn1 * 4294967296 + yn0) := ⟨_, rfl⟩
    obtain ⟨t, ht⟩ : ∃ t, t = (u * 4294967296 + un1) % (yn1 * 4294967296 + yn0) := ⟨_, rfl⟩
    obtain ⟨Q0, hQ0⟩ : ∃ Q0, Q0 = (t * 4294967296 + un0) / (yn1 * 4294967296 + yn0) := ⟨_, rfl⟩
    obtain ⟨R0, hR0⟩ : ∃ R0, R0 = (t * 4294967296 + un0) % (yn1 * 4294967296 + yn0) := ⟨_, rfl⟩
    have htl : t < Y := by rw [ht, hYe]; exact Nat.mod_lt _ (by omega)
    have hRl : R0 < Y := by rw [hR0, hYe]; exact Nat.mod_lt _ (by omega)
    have E1 : u * 4294967296 + un1 = Q1 * Y + t := by
      have := Nat.div_add_mod (u * 4294967296 + un1) (yn1 * 4294967296 + yn0)
      rw [← hQ1, ← ht, hYe, Nat.mul_comm] at this
      exact this.symm
    have E0 : t * 4294967296 + un0 = Q0 * Y + R0 := by
      have := Nat.div_add_mod (t * 4294967296 + un0) (yn1 * 4294967296 + yn0)
      rw [← hQ0, ← hR0, hYe, Nat.mul_comm] at this
      exact this.symm
    have hsum : val hi lo * 2 ^ s = (u * 4294967296 + un1) * 4294967296 + un0 := by
      refine hsp.trans ?_
      rw [Nat.add_mul, Nat.mul_assoc]
      have h2 : v = un1 * 4294967296 + un0 := by rw [hun1, hun0, Nat.mul_comm]; exact (Nat.div_add_mod v 4294967296).symm
      rw [Nat.add_assoc, ← h2]
    obtain ⟨W1, W2⟩ := Kn.whole (Nat.two_pow_pos s) hY hsum E1 E0 hRl
    have hQ1l : Q1 < 4294967296 := by
      rw [hQ1, hYe, Nat.div_lt_iff_lt_mul (by omega)]
      omega
    have hQ0l : Q0 < 4294967296 := by
      rw [hQ0, hYe, Nat.div_lt_iff_lt_mul (by omega)]
      omega
    have hfin : R0 / 2 ^ s = val hi lo % y := by
      rw [← W2, Nat.mul_div_cancel _ (Nat.two_pow_pos s)]
    have g1 := Nat.div_add_mod u yn1
    have g0 := Nat.div_add_mod t yn1
    have hyp : 0 < yn1 := by omega
    have hpow : ((2 : Int) ^ s) = ((2 ^ s : Nat) : Int) := by simp
    have hpow2 : ((2 : Int) ^ (64 - s)) = ((2 ^ (64 - s) : Nat) : Int) := by simp
    have hhi : hi * 2 ^ s < 18446744073709551616 := Nat.lt_of_le_of_lt (by rw [hu]; exact Nat.le_add_right _ _) (Nat.lt_trans huY hn2)
    have main := d_main hi lo y s Y yn1 yn0 u v un1 un0 (u / yn1) (u % yn1) Q1 t (t / yn1) (t % yn1) Q0 R0 hpos hy (by unfold Wd at hyw; omega) (by unfold Wd at hl; omega) hs w
      (fun W => by
        refine (Tryz.bits_LeadingZeros64 (y : Int) W (by omega) (by unfold Wd at hyw; omega)).mono ?_
        rintro e w' ⟨rfl, rfl⟩
        refine ⟨?_, rfl⟩
        rw [Int.toNat_natCast, hlz])
      (by rw [hpow, ← Int.natCast_mul, ← hY]; exact IntWalk.u64_in _ (by omega)) (by omega) (by omega) (by omega) (by omega) (by omega) hYe
      (by have := bits_and_u64_nat Y 4294967295 (by omega) (by omega); rw [show ((4294967295 : Nat) : Int) = 4294967295 from rfl] at this; rw [this, hyn0]; congr 1; exact Nat.and_two_pow_sub_one_eq_mod Y 32)
      (by
        have h1 : IntKind.u64.wrap ((hi : Int) * 2 ^ s) = ((hi * 2 ^ s : Nat) : Int) := by rw [hpow, ← Int.natCast_mul]; exact IntWalk.u64_in _ (by omega)
        rw [h1, hpow2, ← Int.natCast_ediv, bits_or_u64_nat _ _ hhi (Nat.lt_of_le_of_lt (Nat.div_le_self _ _) hl), Kn.shifted hs hl, hu])
      huY
      (by rw [hpow, ← Int.natCast_mul, IntKind.wrap_u64, hv]; omega)
      (by omega)
      (by have := bits_and_u64_nat v 4294967295 hvl (by omega); rw [show ((4294967295 : Nat) : Int) = 4294967295 from rfl] at this; rw [this, hun0]; congr 1; exact Nat.and_two_pow_sub_one_eq_mod v 32)
      (by omega) (by omega) (by omega)
      (by rw [Int.natCast_ediv])
      (by rw [Nat.mul_comm] at g1; rw [← Int.natCast_mul, IntKind.wrap_u64, IntKind.wrap_u64]; omega)
      (by rw [Nat.mul_comm]; exact g1) (Nat.mod_lt _ hyp) hQ1 (by rw [hQ1]; exact Kn.first hyp (by omega))
      (Kn.rest_wrap E1 (by omega)) htl
      (by rw [Int.natCast_ediv])
      (by rw [Nat.mul_comm] at g0; rw [← Int.natCast_mul, IntKind.wrap_u64, IntKind.wrap_u64]; omega)
      (by rw [Nat.mul_comm]; exact g0) (Nat.mod_lt _ hyp) hQ0 (by rw [hQ0]; exact Kn.first hyp (by omega))
      (Kn.rest_wrap E0 (by omega)) hQ1l hQ0l (Nat.le_trans (Nat.div_le_self _ _) (by omega)) (Nat.le_trans (Nat.div_le_self _ _) (by omega)) (by omega) (by omega) (by omega)
    refine main.mono ?_
    rintro e w' ⟨rfl, rfl⟩
    refine ⟨?_, Below.refl _ _⟩
    rw [W1, ← hfin, hpow, ← Int.natCast_ediv, Int.natCast_add, Int.natCast_mul]
    rfl
end Go.Proofs.YtfobmlgpjhghdaaGreatDoor
namespace Go.Proofs.YtfobmlgpjhghdaaGreatDoor
set_option linter.unusedVariables false
open Go.ChangeShapes Go.WideShapes Go.ChangeAt Go.RowKit
theorem divVal {ah al b : Nat} (hb : 1 ≤ b) (h1 : Wd ah) (h2 : Wd al) (h3 : Wd b) :
    val ah al / b = val (ah / b) (val (ah % b) al / b) ∧ val ah al % b = val (ah % b) al % b ∧ val (ah % b) al / b < 18446744073709551616 := by
  have hlt : ah % b < b := Nat.mod_lt _ hb
  have e : val ah al = b * (ah / b * 18446744073709551616) + val (ah % b) al := by
    unfold val
    have := Nat.div_add_mod ah b
    conv => lhs; rw [← this, Nat.add_mul, Nat.mul_assoc]
    omega
  have hq : val (ah % b) al / b < 18446744073709551616 := by
    rw [Nat.div_lt_iff_lt_mul hb]
    unfold val Wd at *
    have : (ah % b + 1) * 18446744073709551616 ≤ b * 18446744073709551616 := Nat.mul_le_mul_right _ hlt
    omega
  refine ⟨?_, ?_, hq⟩
  · rw [e, Nat.mul_add_div hb]
    rfl
  · rw [e, Nat.mul_add_mod]
theorem c_Divide (ah al b : Nat) (hb : 1 ≤ b) (h1 : Wd ah) (h2 : Wd al) (h3 : Wd b) (w : World) :
    Calls Tryz.prog 138 #[.agg #[.int .u64 ah, .int .u64 al], .int .u64 b] w fun e w' => e = .returned (.tuple #[.agg #[.int .u64 ((val ah al / b / 18446744073709551616 : Nat) : Int), .int .u64 ((val ah al / b % 18446744073709551616 : Nat) : Int)], .int .u64 ((val ah al % b : Nat) : Int)]) ∧ Gr w w' := by
  obtain ⟨e1, e2, e3⟩ := divVal hb h1 h2 h3
  obtain ⟨q, hq⟩ : ∃ q, q = ah / b := ⟨_, rfl⟩
  obtain ⟨r, hr⟩ : ∃ r, r = ah % b := ⟨_, rfl⟩
  obtain ⟨l, hl⟩ : ∃ l, l = val r al / b := ⟨_, rfl⟩
  obtain ⟨m, hm⟩ : ∃ m, m = val r al % b := ⟨_, rfl⟩
  rw [← hr, ← hl] at e3
  rw [← hq, ← hr, ← hl] at e1
  rw [← hr, ← hm] at e2
  have f1 : val ah al / b / 18446744073709551616 = q := by rw [e1]; unfold val; omega
  have f2 : val ah al / b % 18446744073709551616 = l := by rw [e1]; unfold val; omega
  rw [f1, f2, e2]
  have hqi : (ah : Int) / (b : Int) = (q : Int) := by rw [hq, Int.natCast_ediv]
  have hri : (ah : Int) % (b : Int) = (r : Int) := by rw [hr, Int.natCast_emod]
  have hql : q ≤ 18446744073709551615 := by rw [hq]; have := Nat.div_le_self ah b; unfold Wd at h1; omega
  have hb0 : ((b : Int) == 0) = false := by simp; omega
  have D := c_Div64 r al b (by rw [hr]; exact Nat.mod_lt _ hb) h3 h2
  rw [← hl, ← hm] at D
  have HD := Lib.hid D
  have hb1 : (1 : Int) ≤ (b : Int) := by omega
  clear D e1 e2 e3 f1 f2 hq hr hl hm h1 h2 h3 hb
  go_enter Tryz.func138, Tryz.ntmps138
  go_wp2_with fail
  go_quiet (fail)
  go_wp2_with (go_at_call 146; (with_reducible refine (HD.out _).mono ?_); rintro e w' ⟨rfl, hg⟩; obtain ⟨hc, hf⟩ := bcell hg)
  have hgw : Gr w w' := Gr.trans (Gr.drewN (by go_grown) _) hg
  refine bodyPost_ret (v := .tuple #[.agg #[.int .u64 q, .int .u64 l], .int .u64 m]) (by simp [results, Tryz.results138, go_sem, hc]) rfl ⟨rfl, ?_⟩
  clear hc hf hg
  go_grown
end Go.Proofs.YtfobmlgpjhghdaaGreatDoor
namespace Go.Proofs.YtfobmlgpjhghdaaGreatDoor
set_option linter.unusedVariables false
open Go.ChangeShapes Go.WideShapes Go.ChangeAt Go.RowKit
theorem c_from3 (a0 a1 a2 b0 b1 b2 : Nat) (h0 : Wd a0) (h1 : Wd a1) (k0 : Wd b0) (k1 : Wd b1) (w : World) :
    Calls Tryz.prog 141 #[.int .i64 3, .agg #[.int .u64 a0, .int .u64 a1, .int .u64 a2], .agg #[.int .u64 b0, .int .u64 b1, .int .u64 b2]] w fun e w' => e = .returned (.int .i64 (cmpN (val a2 a1 * 18446744073709551616 + a0) (val b2 b1 * 18446744073709551616 + b0))) ∧ Gr w w' := by
  have hv : cmpN (val a2 a1 * 18446744073709551616 + a0) (val b2 b1 * 18446744073709551616 + b0) = if cmpN a2 b2 = 0 then (if cmpN a1 b1 = 0 then cmpN a0 b0 else cmpN a1 b1) else cmpN a2 b2 := by
    unfold cmpN val Wd at *
    split <;> split <;> (try split) <;> (try split) <;> (try split) <;> (try split) <;> omega
  rcases Nat.lt_trichotomy a2 b2 with h | h | h
  · have e1 := cmpN_lt h
    rw [hv, e1]
    have E1 := Lib.hid e1
    clear hv e1 h0 h1 k0 k1 h
    go_enter Tryz.func141, Tryz.ntmps141
    go_wp2_with (go_at_call 148; refine (c_cmp _ _ _).mono ?_; rw [E1.out]; rintro e w' ⟨rfl, rfl⟩)
    go_ret
    exact ⟨rfl, by go_grown⟩
  · subst h
    have e1 := cmpN_eq (rfl : a2 = a2)
    rw [hv, e1, if_pos rfl]
    have E1 := Lib.hid e1
    clear e1 hv h0 k0
    rcases Nat.lt_trichotomy a1 b1 with h | h | h
    · have e2 := cmpN_lt h
      rw [e2]
      have E2 := Lib.hid e2
      clear e2 h h1 k1
      go_enter Tryz.func141, Tryz.ntmps141
      go_wp2_with (go_at_call 148; refine (c_cmp _ _ _).mono ?_; (first | rw [E1.out] | rw [E2.out]); rintro e w' ⟨rfl, rfl⟩)
      go_ret
      exact ⟨rfl, by go_grown⟩
    · subst h
      have e2 := cmpN_eq (rfl : a1 = a1)
      rw [e2, if_pos rfl]
      have E2 := Lib.hid e2
      clear e2 h1 k1
      go_enter Tryz.func141, Tryz.ntmps141
      go_wp2_with (go_at_call 148; refine (c_cmp _ _ _).mono ?_; (first | rw [E1.out] | rw [E2.out] | skip); rintro e w' ⟨rfl, rfl⟩)
      go_ret
      exact ⟨rfl, by go_grown⟩
    · have e2 := cmpN_gt h
      rw [e2]
      have E2 := Lib.hid e2
      clear e2 h h1 k1
      go_enter Tryz.func141, Tryz.ntmps141
      go_wp2_with (go_at_call 148; refine (c_cmp _ _ _).mono ?_; (first | rw [E1.out] | rw [E2.out]); rintro e w' ⟨rfl, rfl⟩)
      go_ret
      exact ⟨rfl, by go_grown⟩
  · have e1 := cmpN_gt h
    rw [hv, e1]
    have E1 := Lib.hid e1
    clear hv e1 h0 h1 k0 k1 h
    go_enter Tryz.func141, Tryz.ntmps141
    go_wp2_with (go_at_call 148; refine (c_cmp _ _ _).mono ?_; rw [E1.out]; rintro e w' ⟨rfl, rfl⟩)
    go_ret
    exact ⟨rfl, by go_grown⟩
theorem val_words (n : Nat) : val (n / 18446744073709551616) (n % 18446744073709551616) = n := by
  unfold val
  rw [Nat.mul_comm]
  exact Nat.div_add_mod n 18446744073709551616
theorem wd_mod (n : Nat) : Wd (n % 18446744073709551616) := Nat.mod_lt _ (by omega)
theorem c_CompareProducts (ah al b ch cl d : Nat) (h1 : Wd ah) (h2 : Wd al) (h3 : Wd b) (h4 : Wd ch) (h5 : Wd cl) (h6 : Wd d) (w : World) :
    Calls Tryz.prog 120 #[.agg #[.int .u64 ah, .int .u64 al], .int .u64 b, .agg #[.int .u64 ch, .int .u64 cl], .int .u64 d] w fun e w' => e = .returned (.int .i64 (cmpN (val ah al * b) (val ch cl * d))) ∧ Gr w w' := by
  have T1 := c_Times ah al b h1 h2 h3
  have T2 := c_Times ch cl d h4 h5 h6
  obtain ⟨p, hp⟩ : ∃ p, p = val ah al * b := ⟨_, rfl⟩
  obtain ⟨q, hq⟩ : ∃ q, q = val ch cl * d := ⟨_, rfl⟩
  rw [← hp] at T1 ⊢
  rw [← hq] at T2 ⊢
  obtain ⟨p2, hp2⟩ : ∃ x, x = p / 18446744073709551616 / 18446744073709551616 := ⟨_, rfl⟩
  obtain ⟨p1, hp1⟩ : ∃ x, x = p / 18446744073709551616 % 18446744073709551616 := ⟨_, rfl⟩
  obtain ⟨p0, hp0⟩ : ∃ x, x = p % 18446744073709551616 := ⟨_, rfl⟩
  obtain ⟨q2, hq2⟩ : ∃ x, x = q / 18446744073709551616 / 18446744073709551616 := ⟨_, rfl⟩
  obtain ⟨q1, hq1⟩ : ∃ x, x = q / 18446744073709551616 % 18446744073709551616 := ⟨_, rfl⟩
  obtain ⟨q0, hq0⟩ : ∃ x, x = q % 18446744073709551616 := ⟨_, rfl⟩
  have F := c_from3 p0 p1 p2 q0 q1 q2 (by rw [hp0]; exact wd_mod _) (by rw [hp1]; exact wd_mod _) (by rw [hq0]; exact wd_mod _) (by rw [hq1]; exact wd_mod _)
  rw [← hp2, ← hp1, ← hp0] at T1
  rw [← hq2, ← hq1, ← hq0] at T2
  have ep : val p2 p1 * 18446744073709551616 + p0 = p := by rw [hp2, hp1, val_words, hp0, Nat.mul_comm]; exact Nat.div_add_mod _ _
  have eq : val q2 q1 * 18446744073709551616 + q0 = q := by rw [hq2, hq1, val_words, hq0, Nat.mul_comm]; exact Nat.div_add_mod _ _
  rw [ep, eq] at F
  have HT1 := Lib.hid T1
  have HT2 := Lib.hid T2
  have HF := Lib.hid F
  clear T1 T2 F hp hq hp2 hp1 hp0 hq2 hq1 hq0 ep eq h1 h2 h3 h4 h5 h6
  go_enter Tryz.func120, Tryz.ntmps120
  go_wp2_with fail
  go_at_call 140
  refine (HT1.out _).mono ?_
  rintro e w1 ⟨rfl, hg1⟩
  obtain ⟨hc1, hf1⟩ := bcell hg1
  have hz1 : w.heap.size + 1 < w1.heap.size := by have := hg1.size; simp at this; omega
  go_wp2_with fail
  go_at_call 140
  refine (HT2.out _).mono ?_
  rintro e w2 ⟨rfl, hg2⟩
  obtain ⟨hc2, hf2⟩ := bcell hg2
  have hz2 : w1.heap.size < w2.heap.size := by have := hg2.size; simp at this; omega
  have hz3 : w.heap.size + 1 < w2.heap.size := by omega
  go_wp2_with fail
  go_at_call 141
  refine (HF.out _).mono ?_
  rintro e w3 ⟨rfl, hg3⟩
  go_wp2_with fail
  go_ret
  refine ⟨rfl, ?_⟩
  have g1 : Gr w w1 := Gr.trans (by go_grown) hg1
  have g2 : Gr w w2 := Gr.trans (g1.alloc (by omega) _) hg2
  exact Gr.trans (g2.alloc (by omega) _) hg3
end Go.Proofs.YtfobmlgpjhghdaaGreatDoor
namespace Go.Proofs.YtfobmlgpjhghdaaGreatDoor
set_option linter.unusedVariables false
open Go.ChangeShapes Go.WideShapes Go.ChangeAt Go.RowKit
theorem cmp_lt0 (a b : Nat) : decide (cmpN a b < 0) = decide (a < b) := by
  unfold cmpN; split
  · rename_i h; simp [h]
  · rename_i h; split <;> simp [h]
theorem val_lt {a b : Nat} (ha : Wd a) (hb : Wd b) : val a b < 340282366920938463463374607431768211456 := by
  unfold val
  have h1 : a * 18446744073709551616 ≤ 18446744073709551615 * 18446744073709551616 := Nat.mul_le_mul_right _ (Nat.le_sub_one_of_lt ha)
  have h2 : b < 18446744073709551616 := hb
  omega
end Go.Proofs.YtfobmlgpjhghdaaGreatDoor
namespace Go.Proofs.YtfobmlgpjhghdaaGreatDoor
theorem zb {w : World} {b o : Nat} {v : Value} (h : w.cell? ⟨b, o, none⟩ = some v) : b < w.heap.size := World.block_lt_of_cell? _ _ h
theorem cg {a b : World} (h : Gr a b) (B j : Nat) (v : Value) (e : a.cell? ⟨B, j, none⟩ = some v) : b.cell? ⟨B, j, none⟩ = some v := cell_gr h e
theorem ci {a b : World} (h : Gr a b) (B j : Nat) (x : Int) (e : a.cell? ⟨B, j, none⟩ = some (.int .i64 x)) : b.cell? ⟨B, j, none⟩ = some (.int .i64 x) := cell_gr h e
theorem cu {a b : World} (h : Gr a b) (B j : Nat) (x : Int) (e : a.cell? ⟨B, j, none⟩ = some (.int .u64 x)) : b.cell? ⟨B, j, none⟩ = some (.int .u64 x) := cell_gr h e
theorem fq {a b : World} (h : Gr a b) (B j : Nat) (v : Value) (e : a.cell? ⟨B, j, none⟩ = some v) (f : a.frozen? ⟨B, j, none⟩ = false) : b.frozen? ⟨B, j, none⟩ = false := frozen_gr (v := v) h e f
end Go.Proofs.YtfobmlgpjhghdaaGreatDoor
namespace Go.Proofs.YtfobmlgpjhghdaaGreatDoor.Hd
set_option linter.unusedVariables false
set_option linter.unusedSimpArgs false
open Go.ChangeShapes Go.WideShapes Go.ChangeAt Go.RowKit
variable {P : Program} {ops : Array Oper} {md : Region.Mode} {Rc : World → Prop} {Pk : Act → Prop} {n k : Nat}
def gAt (P : Program) (o : Oper) (a : Act) (w : World) (v : Value) : Prop := o.wp P a w (fun a' w' => a' = a.put o.dst v ∧ Gr w w') (fun _ _ _ => False)
theorem upon_map {o : Oper} {a b : Act} {next next' : Act → World → Prop} {Q : Exit → Act → World → Prop} {r : Result Next}
    (hv : ∀ u w', next (a.put o.dst u) w' → next' (b.put o.dst u) w')
    (hd : ∀ d w', next (({ a with defers := d :: a.defers } : Act).put o.dst undef) w' → next' (({ b with defers := d :: b.defers } : Act).put o.dst undef) w')
    (h : o.upon P a next (fun _ _ _ => False) r) : o.upon P b next' Q r := by
  cases r with
  | ok x w' =>
    cases x with
    | value u => exact hv _ _ h
    | skip => exact hv _ _ h
    | defer d => exact hd _ _ h
    | enter f args =>
      refine Calls.mono h fun e w'' hw => ?_
      cases e with
      | returned u => exact hv _ _ hw
      | panicked c => exact hw.elim
      | outgrown => exact hw.elim fun _ h => h.elim fun _ h => h.elim
    | row s args => exact Rows.mono h fun v w'' hw => hv _ _ hw
    | _ => exact h.elim
  | halt x w' =>
    cases x with
    | panic v => exact h.elim
    | _ => exact h.elim
theorem no_defer {a : Act} {d : Deferred} {x : Option Tmp} {v : Value} (h : (({ a with defers := d :: a.defers } : Act).put x undef) = a.put x v) : False := by
  have h1 : (({ a with defers := d :: a.defers } : Act).put x undef).defers = (a.put x v).defers := by rw [h]
  have h2 : (({ a with defers := d :: a.defers } : Act).put x undef).defers = d :: a.defers := by cases x <;> rfl
  have h3 : (a.put x v).defers = a.defers := by cases x <;> rfl
  rw [h2, h3] at h1
  have := congrArg List.length h1
  simp at this
theorem gAt_put {o : Oper} {a : Act} {w : World} {v x : Value} {d : Option Tmp} (hs : ∀ cs b, o.op ≠ .select cs b) (hl : ∀ t, d = some t → t ∉ o.looksAt ops) (hne : ∀ t, d = some t → o.dst ≠ some t)
    (h : gAt P o a w v) : gAt P o (a.put d x) w v := by
  unfold gAt Oper.wp at *
  rw [execOp_put (ops := ops) o hs a d x hl]
  refine upon_map (fun u w' hu => ⟨?_, hu.2⟩) (fun dd w' hu => (no_defer hu.1).elim) h
  rw [Act.put_comm a x u hne, Act.put_comm a x v hne, hu.1]
theorem gAt_unput {o : Oper} {a : Act} {w : World} {v x : Value} {d : Option Tmp} (hs : ∀ cs b, o.op ≠ .select cs b) (hl : ∀ t, d = some t → t ∉ o.looksAt ops) (hne : ∀ t, d = some t → o.dst ≠ some t)
    (hcan : ∀ u, (a.put d x).put o.dst u = (a.put d x).put o.dst v → a.put o.dst u = a.put o.dst v)
    (h : gAt P o (a.put d x) w v) : gAt P o a w v := by
  unfold gAt Oper.wp at *
  rw [execOp_put (ops := ops) o hs a d x hl] at h
  refine upon_map (fun u w' hu => ⟨hcan u hu.1, hu.2⟩) (fun dd w' hu => (no_defer (a := a.put d x) hu.1).elim) h
def gOp (P : Program) (ops : Array Oper) (Rc : World → Prop) (Pk : Act → Prop) (k i : Nat) (K : Act → Prop) (a : Act) : Prop :=
  if i = k then Pk a ∧ K a else
  match ops[i]? with
  | none => K a
  | some o => if Region.wanted o (yielded ops a.tmps) = true then ∃ v, (∀ w, Rc w → gAt P o a w v) ∧ K (a.put o.dst v) else K (a.put o.dst undef)
theorem gOp_mono {i : Nat} {a : Act} {K K' : Act → Prop} (h : ∀ a, K a → K' a) (hh : gOp P ops Rc Pk k i K a) : gOp P ops Rc Pk k i K' a := by
  unfold gOp at *
  split
  · rename_i hi; rw [if_pos hi] at hh; exact ⟨hh.1, h _ hh.2⟩
  · rename_i hi
    rw [if_neg hi] at hh
    split
    · rename_i ho; simp only [ho] at hh; exact h _ hh
    · rename_i o ho
      simp only [ho] at hh
      split
      · rename_i hw; rw [if_pos hw] at hh; exact ⟨hh.choose, hh.choose_spec.1, h _ hh.choose_spec.2⟩
      · rename_i hw; rw [if_neg hw] at hh; exact h _ hh
theorem gOp_mono' {i : Nat} {o : Oper} {a : Act} {K K' : Act → Prop} (hik : i ≠ k) (ho : ops[i]? = some o) (h : ∀ u, K (a.put o.dst u) → K' (a.put o.dst u)) (hh : gOp P ops Rc Pk k i K a) : gOp P ops Rc Pk k i K' a := by
  unfold gOp at *
  rw [if_neg hik] at *
  simp only [ho] at *
  split
  · rename_i hw; rw [if_pos hw] at hh; exact ⟨hh.choose, hh.choose_spec.1, h _ hh.choose_spec.2⟩
  · rename_i hw; rw [if_neg hw] at hh; exact h _ hh
def wpG (P : Program) (ops : Array Oper) (Rc : World → Prop) (Pk : Act → Prop) (k : Nat) (Q : Act → Prop) : List Oper → Nat → Act → Prop
  | [], _, a => Q a
  | o :: rest, i, a => if i = k then Pk a ∧ wpG P ops Rc Pk k Q rest (i + 1) a else
      if Region.wanted o (yielded ops a.tmps) = true then ∃ v, (∀ w, Rc w → gAt P o a w v) ∧ wpG P ops Rc Pk k Q rest (i + 1) (a.put o.dst v) else wpG P ops Rc Pk k Q rest (i + 1) (a.put o.dst undef)
def wpH (P : Program) (md : Region.Mode) (ops : Array Oper) (Rc : World → Prop) (Pk : Act → Prop) (k n : Nat) (L : Array Bool → Act → Prop) : Nat → Array Bool → Act → Prop
  | 0, listed, a => L listed a
  | f + 1, listed, a => Region.ready md ops listed ≠ [] ∧ ∀ i ∈ Region.ready md ops listed, i < n ∧ gOp P ops Rc Pk k i (wpH P md ops Rc Pk k n L f (listed.setIfInBounds i true)) a
def GIn (P : Program) (ops : Array Oper) (Rc : World → Prop) (o : Oper) (v : Value) (a : Act) : Prop :=
  (Region.wanted o (yielded ops a.tmps) = true ∧ ∀ w, Rc w → gAt P o a w v) ∨ (Region.wanted o (yielded ops a.tmps) = false ∧ v = undef)
theorem GIn.gOp {i : Nat} {o : Oper} {v : Value} {a : Act} (hik : i ≠ k) (hi : ops[i]? = some o) (hy : GIn P ops Rc o v a) {K : Act → Prop} (h : K (a.put o.dst v)) : gOp P ops Rc Pk k i K a := by
  unfold Hd.gOp
  rw [if_neg hik]
  simp only [hi]
  rcases hy with ⟨hw, hv⟩ | ⟨hw, rfl⟩
  · rw [if_pos hw]; exact ⟨v, hv, h⟩
  · rw [if_neg (by rw [hw]; decide)]; exact h
theorem gIn_of_gOp {i : Nat} {o : Oper} {a : Act} {K : Act → Prop} (hik : i ≠ k) (hi : ops[i]? = some o) (h : Hd.gOp P ops Rc Pk k i K a) : ∃ v, GIn P ops Rc o v a ∧ K (a.put o.dst v) := by
  unfold Hd.gOp at h
  rw [if_neg hik] at h
  simp only [hi] at h
  by_cases hw : Region.wanted o (yielded ops a.tmps) = true
  · rw [if_pos hw] at h
    obtain ⟨v, h1, h2⟩ := h
    exact ⟨v, .inl ⟨hw, h1⟩, h2⟩
  · rw [if_neg hw] at h
    exact ⟨undef, .inr ⟨by simpa using hw, rfl⟩, h⟩
theorem GIn.put {o : Oper} {v x : Value} {a : Act} {d : Option Tmp} (hs : ∀ cs b, o.op ≠ .select cs b) (hl : ∀ t, d = some t → t ∉ o.looksAt ops) (hne : ∀ t, d = some t → o.dst ≠ some t)
    (h : GIn P ops Rc o v a) : GIn P ops Rc o v (a.put d x) := by
  unfold GIn at *
  rw [wanted_put o a d x hl]
  rcases h with ⟨h1, h2⟩ | h
  · exact .inl ⟨h1, fun w hw => gAt_put hs hl hne (h2 w hw)⟩
  · exact .inr h
theorem put_cancel {a : Act} {d x : Option Tmp} {y u v : Value} (h : (a.put d y).put x u = (a.put d y).put x v) : a.put x u = a.put x v := by
  cases x with
  | none => rfl
  | some t =>
    have hsz : (a.put d y).tmps.size = a.tmps.size := by cases d <;> simp [Act.put]
    have h1 : ((a.put d y).put (some t) u).tmps[t]? = ((a.put d y).put (some t) v).tmps[t]? := by rw [h]
    simp only [Act.put] at h1 ⊢
    by_cases ht : t < a.tmps.size
    · have ht2 : t < (a.put d y).tmps.size := by rw [hsz]; exact ht
      cases d with
      | none => simp [Act.put, ht] at h1; rw [h1]
      | some e => simp [Act.put, ht] at h1; rw [h1]
    · simp [Array.setIfInBounds, ht]
theorem gOp_put {j : Nat} {oi oj : Oper} {v : Value} (hjk : j ≠ k) (hj : ops[j]? = some oj) (hap : oi.apart ops oj = true)
    (hsi : ∀ cs b, oi.op ≠ .select cs b) (hsj : ∀ cs b, oj.op ≠ .select cs b) {K : Act → Prop} {a : Act}
    (hy : GIn P ops Rc oi v a) (h : gOp P ops Rc Pk k j K (a.put oi.dst v)) :
    gOp P ops Rc Pk k j (fun a' => GIn P ops Rc oi v a' ∧ K (a'.put oi.dst v)) a := by
  obtain ⟨h1, h2, h3⟩ := Oper.apart_spec hap
  have h2' : ∀ d, oj.dst = some d → oi.dst ≠ some d := fun d hd hi => h2 d hi hd
  have keep : ∀ u, GIn P ops Rc oi v (a.put oj.dst u) := fun u => GIn.put (ops := ops) hsi h3 h2' hy
  unfold gOp at *
  rw [if_neg hjk] at *
  simp only [hj] at *
  rw [wanted_put oj a oi.dst v h1] at h
  split
  · rename_i hw
    rw [if_pos hw] at h
    obtain ⟨u, hu, hn⟩ := h
    refine ⟨u, fun w hw' => gAt_unput (ops := ops) hsj h1 h2 (fun x hx => put_cancel hx) (hu w hw'), keep u, by rw [← Act.put_comm a v u h2]; exact hn⟩
  · rename_i hw
    rw [if_neg hw] at h
    exact ⟨keep _, by rw [← Act.put_comm a v undef h2]; exact h⟩
theorem wpH_first {i : Nat} {oi : Oper} {v : Value} {L : Array Bool → Act → Prop} (hP1 : ∀ (oi ok : Oper) a v, ops[k]? = some ok → oi.apart ops ok = true → Pk (a.put oi.dst v) → Pk a) (hik : i ≠ k) (hi : ops[i]? = some oi) (hsel : ∀ (j : Nat) (o : Oper) cs b, ops[j]? = some o → o.op ≠ .select cs b)
    (hs : Region.sinkB md ops n = true) (hc : Region.chainB md ops n = true) (hn : n < ops.size) (hin : i < n)
    (hdone : ∀ listed a, L listed a → ∀ j ∈ Region.ready md ops listed, n ≤ j) :
    ∀ (f : Nat) (listed : Array Bool) (a : Act), HeadInv md ops n listed →
      (∀ j oj, ops[j]? = some oj → j ≠ i → listed.getD j true = false → (∀ e ∈ oj.after, Region.binds md e = true → e.on ≠ i) → oi.apart ops oj = true) →
      i ∈ Region.ready md ops listed → GIn P ops Rc oi v a →
      wpH P md ops Rc Pk k n L f (listed.setIfInBounds i true) (a.put oi.dst v) → wpH P md ops Rc Pk k n L (f + 1) listed a := by
  intro f
  induction f with
  | zero =>
    intro listed a inv _ hr hy H
    have hun := (mem_ready.1 hr).1
    refine ⟨fun h => (by rw [h] at hr; cases hr), fun j hj => ?_⟩
    have hjn : j < n := by
      rcases Nat.lt_or_ge j n with h | h
      · exact h
      · exact absurd hj (tail_waits hs hc hn inv _ i rfl hin hun j h)
    refine ⟨hjn, ?_⟩
    by_cases hji : j = i
    · subst hji; exact hy.gOp hik hi H
    · have := hdone _ _ H j (ready_mono hj hji)
      omega
  | succ f ih =>
    intro listed a inv hfree hr hy H
    have hun := (mem_ready.1 hr).1
    refine ⟨fun h => (by rw [h] at hr; cases hr), fun j hj => ?_⟩
    have hjn : j < n := by
      rcases Nat.lt_or_ge j n with h | h
      · exact h
      · exact absurd hj (tail_waits hs hc hn inv _ i rfl hin hun j h)
    refine ⟨hjn, ?_⟩
    by_cases hji : j = i
    · subst hji; exact hy.gOp hik hi H
    · have h1 := (H.2 j (ready_mono hj hji)).2
      obtain ⟨hjun, oj, hoj, hall⟩ := mem_ready.1 hj
      have hnot : ∀ e ∈ oj.after, Region.binds md e = true → e.on ≠ i := fun e he hb heq => by
        have h1 := hall e he hb
        rw [heq, getD_both hun] at h1
        cases h1
      have hfree' : ∀ m ok, ops[m]? = some ok → m ≠ i → (listed.setIfInBounds j true).getD m true = false →
          (∀ e ∈ ok.after, Region.binds md e = true → e.on ≠ i) → oi.apart ops ok = true := fun m ok hm hmi hun hno => by
        refine hfree m ok hm hmi ?_ hno
        by_cases hjm : j = m
        · subst hjm; exact hjun
        · rw [getD_set_ne true hjm] at hun; exact hun
      have go : ∀ a', GIn P ops Rc oi v a' → wpH P md ops Rc Pk k n L f ((listed.setIfInBounds i true).setIfInBounds j true) (a'.put oi.dst v) → wpH P md ops Rc Pk k n L (f + 1) (listed.setIfInBounds j true) a' := fun a' hy' h3 => by
        refine ih (listed.setIfInBounds j true) a' (inv.set hj hjn) hfree' (ready_mono hr (Ne.symm hji)) hy' ?_
        rw [Array.setIfInBounds_comm _ _ hji]
        exact h3
      by_cases hjk : j = k
      · subst hjk
        unfold gOp at h1 ⊢
        rw [if_pos rfl] at h1 ⊢
        exact ⟨hP1 oi oj a v hoj (hfree j oj hoj hji hjun hnot) h1.1, go a hy h1.2⟩
      · have h2 := gOp_put hjk hoj (hfree j oj hoj hji hjun hnot) (fun cs b => hsel i oi cs b hi) (fun cs b => hsel j oj cs b hoj) hy h1
        exact gOp_mono (fun a' h3 => go a' h3.1 h3.2) h2
theorem wpH_first_alloc {ok : Oper} {L : Array Bool → Act → Prop} (hP2 : ∀ (oj : Oper) a v, ok.apart ops oj = true → Pk a → Pk (a.put oj.dst v)) (hs : Region.sinkB md ops n = true) (hc : Region.chainB md ops n = true) (hn : n < ops.size) (hkn : k < n)
    (hdone : ∀ listed a, L listed a → ∀ j ∈ Region.ready md ops listed, n ≤ j) :
    ∀ (f : Nat) (listed : Array Bool) (a : Act), HeadInv md ops n listed →
      (∀ j oj, ops[j]? = some oj → j ≠ k → listed.getD j true = false → (∀ e ∈ oj.after, Region.binds md e = true → e.on ≠ k) → ok.apart ops oj = true) →
      k ∈ Region.ready md ops listed → Pk a →
      wpH P md ops Rc Pk k n L f (listed.setIfInBounds k true) a → wpH P md ops Rc Pk k n L (f + 1) listed a := by
  intro f
  induction f with
  | zero =>
    intro listed a inv _ hr hp H
    have hun := (mem_ready.1 hr).1
    refine ⟨fun h => (by rw [h] at hr; cases hr), fun j hj => ?_⟩
    have hjn : j < n := by
      rcases Nat.lt_or_ge j n with h | h
      · exact h
      · exact absurd hj (tail_waits hs hc hn inv _ k rfl hkn hun j h)
    refine ⟨hjn, ?_⟩
    by_cases hjk : j = k
    · subst hjk; unfold gOp; rw [if_pos rfl]; exact ⟨hp, H⟩
    · have := hdone _ _ H j (ready_mono hj hjk)
      omega
  | succ f ih =>
    intro listed a inv hfree hr hp H
    have hun := (mem_ready.1 hr).1
    refine ⟨fun h => (by rw [h] at hr; cases hr), fun j hj => ?_⟩
    have hjn : j < n := by
      rcases Nat.lt_or_ge j n with h | h
      · exact h
      · exact absurd hj (tail_waits hs hc hn inv _ k rfl hkn hun j h)
    refine ⟨hjn, ?_⟩
    by_cases hjk : j = k
    · subst hjk; unfold gOp; rw [if_pos rfl]; exact ⟨hp, H⟩
    · have h1 := (H.2 j (ready_mono hj hjk)).2
      obtain ⟨hjun, oj, hoj, hall⟩ := mem_ready.1 hj
      have hnot : ∀ e ∈ oj.after, Region.binds md e = true → e.on ≠ k := fun e he hb heq => by
        have h1 := hall e he hb
        rw [heq, getD_both hun] at h1
        cases h1
      have hfree' : ∀ m om, ops[m]? = some om → m ≠ k → (listed.setIfInBounds j true).getD m true = false →
          (∀ e ∈ om.after, Region.binds md e = true → e.on ≠ k) → ok.apart ops om = true := fun m om hm hmi hun hno => by
        refine hfree m om hm hmi ?_ hno
        by_cases hjm : j = m
        · subst hjm; exact hjun
        · rw [getD_set_ne true hjm] at hun; exact hun
      refine gOp_mono' hjk hoj (fun u h3 => ih (listed.setIfInBounds j true) _ (inv.set hj hjn) hfree' (ready_mono hr (Ne.symm hjk)) (hP2 oj a u (hfree j oj hoj hjk hjun hnot) hp) ?_) h1
      rw [Array.setIfInBounds_comm _ _ hjk]
      exact h3
theorem wpH_lex {g : Nat} {Lq : Act → Prop} (hP1 : ∀ (oi ok : Oper) a v, ops[k]? = some ok → oi.apart ops ok = true → Pk (a.put oi.dst v) → Pk a) (hP2 : ∀ (ok oj : Oper) a v, ops[k]? = some ok → ok.apart ops oj = true → Pk a → Pk (a.put oj.dst v)) (hsel : Region.noSelect ops = true) (hs : Region.sinkB md ops n = true) (hc : Region.chainB md ops n = true) (hn : n < ops.size) :
    ∀ (l : List Oper) (i : Nat) (listed : Array Bool) (a : Act), (∀ j, j < l.length → l[j]? = ops[i + j]?) → i + l.length = n → HeadInv md ops n listed →
    (∀ j, listed.getD j false = decide (j < i)) → listed.size = ops.size → Region.lexHead md ops g l.length i listed = true → wpG P ops Rc Pk k Lq l i a →
    wpH P md ops Rc Pk k n (fun listed' a' => (Region.seqB md ops g n listed' = true ∧ listed'.getD k false = decide (k < n)) ∧ Lq a') l.length listed a
  | [], i, listed, a, _, hk, _, hd, _, hB, h => by
    have : i = n := by simpa using hk
    subst this
    exact ⟨⟨by simpa [Region.lexHead] using hB, hd k⟩, h⟩
  | o :: l, i, listed, a, hl, hk, inv, hd, hsz, hB, h => by
    have h0 : ops[i]? = some o := by simpa using (hl 0 (by simp)).symm
    simp only [List.length_cons, Region.lexHead, Bool.and_eq_true] at hB
    obtain ⟨⟨hr, hf⟩, hB'⟩ := hB
    have hkn : i < n := by simp only [List.length_cons] at hk; omega
    have hr' : i ∈ Region.ready md ops listed := by simpa using hr
    have next : ∀ a', wpG P ops Rc Pk k Lq l (i + 1) a' → wpH P md ops Rc Pk k n (fun listed' a' => (Region.seqB md ops g n listed' = true ∧ listed'.getD k false = decide (k < n)) ∧ Lq a') l.length (listed.setIfInBounds i true) a' := fun a' h' =>
      wpH_lex hP1 hP2 hsel hs hc hn l (i + 1) _ _ (fun j hj => by have := hl (j + 1) (by simp; omega); simpa [Nat.add_assoc, Nat.add_comm 1 j] using this) (by simp only [List.length_cons] at hk; omega) (inv.set hr' hkn) (fun j => by
        by_cases hji : i = j
        · subst hji
          simp [hsz, show i < ops.size by omega]
        · rw [getD_set_ne false hji, hd j]
          rw [decide_eq_decide]
          omega) (by simp [hsz]) hB' h'
    unfold wpG at h
    by_cases hik : i = k
    · rw [if_pos hik] at h
      subst hik
      exact wpH_first_alloc (ok := o) (fun oj a v => hP2 o oj a v h0) hs hc hn hkn (fun listed' a' hL => seqB_ready hL.1.1) l.length listed a inv (Region.free_spec h0 hf) hr' h.1 (next a h.2)
    · rw [if_neg hik] at h
      have hst : gOp P ops Rc Pk k i (wpG P ops Rc Pk k Lq l (i + 1)) a := by unfold gOp; rw [if_neg hik]; simp only [h0]; exact h
      obtain ⟨v, hy, hK⟩ := gIn_of_gOp hik h0 hst
      exact wpH_first hP1 hik h0 (Region.noSelect_spec hsel) hs hc hn hkn (fun listed' a' hL => seqB_ready hL.1.1) l.length listed a inv (Region.free_spec h0 hf) hr' hy (next _ hK)
def Rel (k : Nat) (d : Option Tmp) (R0 : World → Prop) (R1 : Value → World → Prop) (listed : Array Bool) (a b : Act) (w : World) : Prop :=
  if listed.getD k false = true then ∃ v, b = a.put d v ∧ R1 v w else b = a ∧ R0 w
theorem wpOp_of_gAt {i : Nat} {o : Oper} {b : Act} {w : World} {v : Value} {K' : Act → World → Prop} {Q' : Exit → Act → World → Prop} (ho : ops[i]? = some o) (hw : Region.wanted o (yielded ops b.tmps) = true) (hb : gAt P o b w v)
    (h : ∀ w', Gr w w' → K' (b.put o.dst v) w') : wpOp P ops Q' i K' b w := by
  unfold wpOp
  simp only [ho]
  rw [if_pos hw]
  refine .inl ?_
  unfold gAt Oper.wp at hb
  unfold Oper.wp
  refine upon_map (fun u w' hu => ?_) (fun d w' hu => (no_defer hu.1).elim) hb
  rw [hu.1]
  exact h w' hu.2
def Does (P : Program) (ok : Oper) (R0 : World → Prop) (R1 : Value → World → Prop) (a : Act) : Prop := ∀ w, R0 w → ok.wp P a w (fun a' w' => ∃ v, a' = a.put ok.dst v ∧ R1 v w') (fun _ _ _ => False)
theorem Does.put {ok : Oper} {R0 : World → Prop} {R1 : Value → World → Prop} {a : Act} {x : Value} {d : Option Tmp} (hs : ∀ cs b, ok.op ≠ .select cs b) (hl : ∀ t, d = some t → t ∉ ok.looksAt ops) (hne : ∀ t, d = some t → ok.dst ≠ some t)
    (h : Does P ok R0 R1 a) : Does P ok R0 R1 (a.put d x) := by
  intro w hw
  have h := h w hw
  unfold Oper.wp at *
  rw [execOp_put (ops := ops) ok hs a d x hl]
  refine upon_map (fun u w' hu => ?_) (fun dd w' hu => ?_) h
  · obtain ⟨v, h1, h2⟩ := hu
    exact ⟨v, by rw [Act.put_comm a x u hne, Act.put_comm a x v hne, h1], h2⟩
  · obtain ⟨v, h1, h2⟩ := hu
    exact (no_defer h1).elim
theorem Does.unput {ok : Oper} {R0 : World → Prop} {R1 : Value → World → Prop} {a : Act} {x : Value} {d : Option Tmp} (hs : ∀ cs b, ok.op ≠ .select cs b) (hl : ∀ t, d = some t → t ∉ ok.looksAt ops)
    (h : Does P ok R0 R1 (a.put d x)) : Does P ok R0 R1 a := by
  intro w hw
  have h := h w hw
  unfold Oper.wp at *
  rw [execOp_put (ops := ops) ok hs a d x hl] at h
  refine upon_map (fun u w' hu => ?_) (fun dd w' hu => ?_) h
  · obtain ⟨v, h1, h2⟩ := hu
    exact ⟨v, put_cancel h1, h2⟩
  · obtain ⟨v, h1, h2⟩ := hu
    exact (no_defer (a := a.put d x) h1).elim
theorem wpAny_of_H {g : Nat} {R0 : World → Prop} {R1 : Value → World → Prop} {ok : Oper} {L : Array Bool → Act → Prop} {Q' : Exit → Act → World → Prop} (hkn : k < n → ops[k]? = some ok ∧ ok.guard = none)
    (h00 : ∀ w w', R0 w → Gr w w' → R0 w') (h11 : ∀ v w w', R1 v w → Gr w w' → R1 v w') (h0 : ∀ w, R0 w → Rc w) (h1 : ∀ v w, R1 v w → Rc w)
    (hsel : ∀ (j : Nat) (o : Oper) cs b, ops[j]? = some o → o.op ≠ .select cs b)
    (hap : ∀ j o, ops[j]? = some o → j < n → j ≠ k → ∀ t, ok.dst = some t → t ∉ o.looksAt ops ∧ o.dst ≠ some t)
    (hL : ∀ listed a b w, L listed a → Rel k ok.dst R0 R1 listed a b w → wpAny P md ops Q' g listed b w) :
    ∀ (f : Nat) (listed : Array Bool) (a b : Act) (w : World), listed.size = ops.size → Rel k ok.dst R0 R1 listed a b w → wpH P md ops Rc (Does P ok R0 R1) k n L f listed a → wpAny P md ops Q' (f + g) listed b w
  | 0, listed, a, b, w, _, hR, h => by rw [Nat.zero_add]; exact hL _ _ _ _ h hR
  | f + 1, listed, a, b, w, hsz, hR, h => by
    rw [show f + 1 + g = (f + g) + 1 by omega]
    refine ⟨fun h0 => absurd h0 h.1, fun i hi => ?_⟩
    obtain ⟨hin, hop⟩ := h.2 i hi
    have hun := (mem_ready.1 hi).1
    obtain ⟨_, oi, hoi, _⟩ := mem_ready.1 hi
    have hil : i < ops.size := (Array.getElem?_eq_some_iff.1 hoi).1
    have hsz' : (listed.setIfInBounds i true).size = ops.size := by simp [hsz]
    have hrec : ∀ a' b' w', Rel k ok.dst R0 R1 (listed.setIfInBounds i true) a' b' w' → wpH P md ops Rc (Does P ok R0 R1) k n L f (listed.setIfInBounds i true) a' → wpAny P md ops Q' (f + g) (listed.setIfInBounds i true) b' w' := fun a' b' w' hr hh => wpAny_of_H hkn h00 h11 h0 h1 hsel hap hL f _ a' b' w' hsz' hr hh
    unfold Rel at hR
    by_cases hik : i = k
    · subst hik
      obtain ⟨hok, hgu⟩ := hkn hin
      have hf : listed.getD i false = false := getD_both hun
      rw [hf] at hR
      simp only [Bool.false_eq_true, if_false] at hR
      obtain ⟨rfl, hR0⟩ := hR
      unfold gOp at hop
      rw [if_pos rfl] at hop
      unfold wpOp
      simp only [hok]
      rw [if_pos (by unfold Region.wanted; rw [hgu])]
      refine .inl ?_
      have ha := hop.1 w hR0
      unfold Oper.wp at ha ⊢
      have fin : ∀ a' w', (∃ v, a' = b.put ok.dst v ∧ R1 v w') → wpAny P md ops Q' (f + g) (listed.setIfInBounds i true) a' w' := fun a' w' hu => by
        obtain ⟨v, rfl, hv⟩ := hu
        refine hrec b _ _ ?_ hop.2
        unfold Rel
        rw [if_pos (by simp [hsz, hil])]
        exact ⟨v, rfl, hv⟩
      refine upon_map (a := b) (b := b) (fun u w' hu => fin _ _ hu) (fun dd w' hu => fin _ _ hu) ha
    · obtain hap' := hap i oi hoi hin hik
      have hl' : ∀ t, ok.dst = some t → t ∉ oi.looksAt ops := fun t ht => (hap' t ht).1
      have hn' : ∀ t, ok.dst = some t → oi.dst ≠ some t := fun t ht => (hap' t ht).2
      unfold gOp at hop
      rw [if_neg hik] at hop
      simp only [hoi] at hop
      have hkeep : (listed.setIfInBounds i true).getD k false = listed.getD k false := getD_set_ne false hik
      by_cases hkl : listed.getD k false = true
      · rw [if_pos hkl] at hR
        obtain ⟨v, rfl, hnew⟩ := hR
        have hwp := wanted_put oi a ok.dst v hl'
        by_cases hw : Region.wanted oi (yielded ops a.tmps) = true
        · rw [if_pos hw] at hop
          obtain ⟨u, hu, hK⟩ := hop
          refine wpOp_of_gAt hoi (by rw [hwp]; exact hw) (gAt_put (a := a) (ops := ops) (hsel i oi · · hoi) hl' hn' (hu w (h1 v w hnew))) fun w' hgw => ?_
          refine hrec (a.put oi.dst u) _ _ ?_ hK
          unfold Rel
          rw [hkeep, if_pos hkl]
          exact ⟨v, Act.put_comm a v u hn', h11 v w w' hnew hgw⟩
        · rw [if_neg hw] at hop
          unfold wpOp
          simp only [hoi]
          rw [if_neg (by rw [hwp]; exact hw)]
          refine hrec (a.put oi.dst undef) _ _ ?_ hop
          unfold Rel
          rw [hkeep, if_pos hkl]
          exact ⟨v, Act.put_comm a v undef hn', hnew⟩
      · rw [if_neg hkl] at hR
        obtain ⟨rfl, hR0⟩ := hR
        by_cases hw : Region.wanted oi (yielded ops b.tmps) = true
        · rw [if_pos hw] at hop
          obtain ⟨u, hu, hK⟩ := hop
          refine wpOp_of_gAt hoi hw (hu w (h0 w hR0)) fun w' hgw => ?_
          refine hrec (b.put oi.dst u) _ _ ?_ hK
          unfold Rel
          rw [hkeep, if_neg hkl]
          exact ⟨rfl, h00 w w' hR0 hgw⟩
        · rw [if_neg hw] at hop
          unfold wpOp
          simp only [hoi]
          rw [if_neg hw]
          refine hrec (b.put oi.dst undef) _ _ ?_ hop
          unfold Rel
          rw [hkeep, if_neg hkl]
          exact ⟨rfl, hR0⟩
def headB (ops : Array Oper) (n k : Nat) (d : Option Tmp) : Bool :=
  Region.lexTailB .any ops n && (List.range n).all fun j => j == k || match d, ops[j]? with | some t, some o => !(o.looksAt ops).contains t && o.dst != some t | _, _ => true
theorem wp_region_headX {id : Nat} {Q : Exit → Act → World → Prop} {a : Act} {w : World} {l : List Oper} (n k : Nat) (ok : Oper) (Rc R0 : World → Prop) (R1 : Value → World → Prop) (hm : P.follows .mixedOrders = true) (hB : headB l.toArray n k ok.dst = true) (hsl : ∀ cs b, ok.op ≠ .select cs b)
    (hk : ∀ o, l.toArray[k]? = some o → o = ok ∧ o.guard = none)
    (h00 : ∀ w w', R0 w → Gr w w' → R0 w') (h11 : ∀ v w w', R1 v w → Gr w w' → R1 v w') (h0 : ∀ w, R0 w → Rc w) (h1 : ∀ v w, R1 v w → Rc w) (hw : R0 w)
    (h' : ∀ K : Act → Prop, (∀ a', (∀ b w', (if k < n then ∃ v, b = a'.put ok.dst v ∧ R1 v w' else b = a' ∧ R0 w') → wpList P l.toArray Q (l.drop n) b w') → K a') → wpG P l.toArray Rc (Does P ok R0 R1) k K (l.take n) 0 a) : (Code.region id l.toArray true).wp P Q a w := by
  have h := h' (fun a' => ∀ b w', (if k < n then ∃ v, b = a'.put ok.dst v ∧ R1 v w' else b = a' ∧ R0 w') → wpList P l.toArray Q (l.drop n) b w') (fun a' x => x)
  simp only [headB, Region.lexTailB, Bool.and_eq_true, decide_eq_true_eq] at hB
  obtain ⟨⟨⟨⟨⟨hsel, hn⟩, hs⟩, hc⟩, hlex⟩, hap⟩ := hB
  have hn' : n < l.length := by simpa using hn
  have htl : (l.take n).length = n := by simp; omega
  have hdl : (l.drop n).length = l.toArray.size - n := by simp
  have inv0 : HeadInv .any l.toArray n (Array.replicate l.toArray.size false) :=
    ⟨by simp, fun j oj _ hl => (by rw [getD_replicate_false] at hl; cases hl), fun t _ ht => getD_in (by simpa using ht) (getD_replicate_false _ _)⟩
  have hkn : k < n → l.toArray[k]? = some ok ∧ ok.guard = none := fun h => by
    have hlt : k < l.toArray.size := by omega
    have e := Array.getElem?_eq_getElem hlt
    obtain ⟨h1, h2⟩ := hk _ e
    rw [← h1]
    exact ⟨e, h2⟩
  have H := wpH_lex (md := .any) (g := l.toArray.size - n) (k := k) (Pk := Does P ok R0 R1) (fun oi o a v ho hap2 hD => by
    rw [(hk o ho).1] at hap2
    exact Does.unput hsl (Oper.apart_spec hap2).1 hD) (fun o oj a v ho hap2 hD => by
    rw [(hk o ho).1] at hap2
    exact Does.put hsl (Oper.apart_spec hap2).2.2 (fun t h1 h2 => (Oper.apart_spec hap2).2.1 t h2 h1) hD) hsel hs hc hn (l.take n) 0 _ a (fun j hj => by
    have hj' : j < n := by rw [htl] at hj; exact hj
    simp [hj']) (by simpa using htl) inv0 (fun j => by rw [getD_replicate_false]; simp) (by simp) (by rw [htl]; exact hlex) h
  rw [htl] at H
  refine wp_region_any hm ?_
  have hw0 : Gr w { w with drawn := w.drawn + 1 } := (Below.refl _ _).drew
  have := wpAny_of_H (Q' := Q) (g := l.toArray.size - n) (ok := ok) (R0 := R0) (R1 := R1) hkn h00 h11 h0 h1 (Region.noSelect_spec hsel) (fun j o ho hj hjk t ht => by
      have := List.all_eq_true.1 hap j (List.mem_range.2 hj)
      simp only [ho, ht, Bool.or_eq_true, beq_iff_eq, hjk, false_or, Bool.and_eq_true] at this
      simpa using this) (fun listed a' b' w' hL hR => by
    have hq : wpList P l.toArray Q (l.drop n) b' w' := by
      refine hL.2 b' w' ?_
      have h2 := hR
      unfold Rel at h2
      rw [hL.1.2] at h2
      simpa using h2
    have := wpAny_of_seq (md := .any) (Q' := Q) (l.drop n) n listed b' w' (fun j => by simp [List.getElem?_drop]) (by rw [hdl]; exact hL.1.1) hq
    rwa [hdl] at this) n _ a a { w with drawn := w.drawn + 1 } (by simp) (by unfold Rel; rw [getD_replicate_false]; simp; exact h00 _ _ hw hw0) H
  rw [show n + (l.toArray.size - n) = l.toArray.size by omega] at this
  exact this
theorem wp_region_head {id : Nat} {Q : Exit → Act → World → Prop} {a : Act} {w : World} {l : List Oper} {ok : Oper} (n k : Nat) (Rc R0 : World → Prop) (R1 : Value → World → Prop) (hm : P.follows .mixedOrders = true) (hk : l.toArray[k]? = some ok) (hB : (headB l.toArray n k ok.dst && decide (k < n) && ok.guard.isNone) = true) (hsl : ∀ cs b, ok.op ≠ .select cs b)
    (h00 : ∀ w w', R0 w → Gr w w' → R0 w') (h11 : ∀ v w w', R1 v w → Gr w w' → R1 v w') (h0 : ∀ w, R0 w → Rc w) (h1 : ∀ v w, R1 v w → Rc w) (hw : R0 w)
    (h' : ∀ K : Act → Prop, (∀ a', (∀ v w', R1 v w' → wpList P l.toArray Q (l.drop n) (a'.put ok.dst v) w') → K a') → wpG P l.toArray Rc (Does P ok R0 R1) k K (l.take n) 0 a) : (Code.region id l.toArray true).wp P Q a w := by
  simp only [Bool.and_eq_true, decide_eq_true_eq, Option.isNone_iff_eq_none] at hB
  refine wp_region_headX n k ok Rc R0 R1 hm hB.1.1 hsl (fun o ho => by rw [hk] at ho; cases ho; exact ⟨rfl, hB.2⟩) h00 h11 h0 h1 hw fun K hK => h' K fun a' ha => hK a' fun b w' hb => ?_
  rw [if_pos hB.1.2] at hb
  obtain ⟨v, rfl, hv⟩ := hb
  exact ha v w' hv
theorem wpG_any {Q : Act → Prop} {Pk' : Act → Prop} : ∀ (l : List Oper) (i : Nat) (a : Act), i + l.length ≤ k → wpG P ops Rc Pk k Q l i a → wpG P ops Rc Pk' k Q l i a
  | [], _, _, _, h => h
  | o :: l, i, a, hl, h => by
    simp only [List.length_cons] at hl
    have hik : i ≠ k := by omega
    unfold wpG at h ⊢
    rw [if_neg hik] at h ⊢
    split
    · rename_i hw
      rw [if_pos hw] at h
      obtain ⟨v, h1, h2⟩ := h
      exact ⟨v, h1, wpG_any l (i + 1) _ (by omega) h2⟩
    · rename_i hw
      rw [if_neg hw] at h
      exact wpG_any l (i + 1) _ (by omega) h
theorem wp_region_head0 {id : Nat} {Q : Exit → Act → World → Prop} {a : Act} {w : World} {l : List Oper} (n : Nat) (Rc : World → Prop) (hm : P.follows .mixedOrders = true) (hB : headB l.toArray n l.length none = true)
    (h00 : ∀ w w', Rc w → Gr w w' → Rc w') (hw : Rc w)
    (h' : ∀ K : Act → Prop, (∀ a', (∀ w', Rc w' → wpList P l.toArray Q (l.drop n) a' w') → K a') → wpG P l.toArray Rc (fun _ => True) l.length K (l.take n) 0 a) : (Code.region id l.toArray true).wp P Q a w := by
  have hn : n < l.length := by
    simp only [headB, Region.lexTailB, Bool.and_eq_true, decide_eq_true_eq] at hB
    simpa using hB.1.1.1.1.2
  refine wp_region_headX n l.length (Oper.mk none (.move (.const undef)) 0 "" #[] none) Rc Rc (fun _ _ => False) hm hB (by intro _ _ h; cases h) (fun o ho => by simp at ho) h00 (fun _ _ _ h => h.elim) (fun _ h => h) (fun _ _ h => h.elim) hw fun K hK => ?_
  refine wpG_any (Pk := fun _ => True) _ _ _ (by simp; omega) ?_
  exact h' K fun a' ha => hK a' fun b w' hb => by
    rw [if_neg (by omega)] at hb
    obtain ⟨rfl, hb⟩ := hb
    exact ha w' hb
theorem wpG_k {Q : Act → Prop} {o : Oper} {rest : List Oper} {i : Nat} {a : Act} (hi : i = k) (hp : Pk a) (h : wpG P ops Rc Pk k Q rest (i + 1) a) : wpG P ops Rc Pk k Q (o :: rest) i a := by
  unfold wpG; rw [if_pos hi]; exact ⟨hp, h⟩
theorem wpG_want {Q : Act → Prop} {o : Oper} {rest : List Oper} {i : Nat} {a : Act} (hi : i ≠ k) (hw : Region.wanted o (yielded ops a.tmps) = true) (h : ∃ v, (∀ w, Rc w → gAt P o a w v) ∧ wpG P ops Rc Pk k Q rest (i + 1) (a.put o.dst v)) : wpG P ops Rc Pk k Q (o :: rest) i a := by
  unfold wpG; rw [if_neg hi, if_pos hw]; exact h
theorem wpG_nil {Q : Act → Prop} {i : Nat} {a : Act} (h : Q a) : wpG P ops Rc Pk k Q [] i a := h
theorem gAt_of_quiet {o : Oper} {a : Act} {w1 : World} {v : Value} (h : ∀ K : Act → Prop, (∀ a', a' = a.put o.dst v → K a') → o.quiet P a (fun w' => ∃ m, w' = spread w1 m) K) : gAt P o a w1 v := by
  obtain ⟨u, hu, he⟩ := h (fun a' => a' = a.put o.dst v) (fun a' h => h)
  have h1 := hu w1 ⟨⟨w1.drawn, #[]⟩, by simp [spread]⟩
  unfold gAt Oper.wp
  unfold Oper.quietAt at h1
  revert h1
  generalize (execOp a.eval o).run P w1 = r
  intro h1
  cases r with
  | ok x w' =>
    cases x with
    | value x => obtain ⟨rfl, rfl⟩ := h1; exact ⟨he, Below.refl _ _⟩
    | skip => obtain ⟨rfl, rfl⟩ := h1; exact ⟨he, Below.refl _ _⟩
    | enter f args =>
      obtain ⟨rfl, h1⟩ := h1
      refine Calls.mono h1 fun e w'' hw => ?_
      obtain ⟨rfl, m, rfl⟩ := hw
      exact ⟨he, gr_spread _ _⟩
    | _ => exact h1.elim
  | halt x w' => exact h1.elim
end Go.Proofs.YtfobmlgpjhghdaaGreatDoor.Hd
namespace Go.Proofs.YtfobmlgpjhghdaaGreatDoor
set_option linter.unusedVariables false
open Go.ChangeShapes Go.WideShapes Go.ChangeAt Go.RowKit
namespace Hd
variable {P : Program}
theorem wp_region_tail {id : Nat} {Q : Exit → Act → World → Prop} {a : Act} {w : World} {l : List Oper} (n : Nat) (hm : P.follows .mixedOrders = true) (hB : headB l.toArray n l.length none = true)
    (h' : ∀ K : Act → Prop, (∀ a', (∀ w', (∃ m, w' = spread w m) → wpList P l.toArray Q (l.drop n) a' w') → K a') → wpG P l.toArray (fun w' => ∃ m, w' = spread w m) (fun _ => True) l.length K (l.take n) 0 a) : (Code.region id l.toArray true).wp P Q a w :=
  wp_region_head0 n (fun w' => ∃ m, w' = spread w m) hm hB (by rintro _ _ ⟨m, rfl⟩ g; exact spread_gr g) ⟨⟨w.drawn, #[]⟩, by simp [spread]⟩ h'
theorem gr_of_spread {w w' : World} (h : ∃ m, w' = spread w m) : Gr w w' := by
  obtain ⟨m, rfl⟩ := h
  exact gr_spread _ _
end Hd
end Go.Proofs.YtfobmlgpjhghdaaGreatDoor
namespace Go.Proofs.YtfobmlgpjhghdaaGreatDoor
set_option linter.unusedVariables false
open Go.ChangeShapes Go.WideShapes Go.ChangeAt Go.RowKit
section
variable {P : Program} {w : World} {r : Reach} {base : Nat} {t : TypeId} {v : Value}
theorem open_cells {fs : Array Field} {us : List TypeId} {n : Nat} (ht : P.underlying t = some (.struct fs)) (hts : P.cellTypes P.depth t = some us) (hn : us.length = n) (hc : P.cellsOf t = n) (h : Value.okWide P w r base t v) :
    ∃ cs : Array Value, v = .agg cs ∧ cs.size = n ∧ ∀ (i : Nat) u k, us[i]? = some u → P.underlying u = some (.int k) → ∃ z, cs[i]? = some (.int k z) ∧ k.has z := by
  simp only [Value.okWide, ht] at h
  obtain ⟨cs, rfl, hs, ts, hts', -, hall⟩ := h
  rw [hts] at hts'
  obtain rfl := Option.some.inj hts'
  refine ⟨cs, rfl, by rw [hs, hc], fun i u k hu hk => ?_⟩
  have hlt : i < us.length := by
    rcases Nat.lt_or_ge i us.length with h | h
    · exact h
    · rw [List.getElem?_eq_none h] at hu; cases hu
  have hi : i < cs.size := by rw [hs, hc, ← hn]; exact hlt
  obtain ⟨u', hu', hok⟩ := hall i cs[i] (by simp [hi])
  rw [Nat.mod_eq_of_lt hlt, hu] at hu'
  obtain rfl := Option.some.inj hu'
  simp only [Cell.okWide, hk] at hok
  have hok' : Cell.ok P w r base u cs[i] := by
    cases hcs : cs[i] <;> simp_all
  simp only [Cell.ok, hk] at hok'
  cases hcs : cs[i] <;> simp only [hcs] at hok' <;> try exact hok'.elim
  obtain ⟨rfl, hb⟩ := hok'
  exact ⟨_, by simp [hi, hcs], hb⟩
theorem i64_has {z : Int} (h : IntKind.i64.has z) : -9223372036854775808 ≤ z ∧ z ≤ 9223372036854775807 := h
theorem open_pt {fs : Array Field} {u : TypeId} (ht : P.underlying t = some (.struct fs)) (hts : P.cellTypes P.depth t = some [u, u]) (hc : P.cellsOf t = 2) (hu : P.underlying u = some (.int .i64)) (h : Value.okWide P w r base t v) :
    ∃ x y : Int, v = .agg #[.int .i64 x, .int .i64 y] ∧ (-9223372036854775808 ≤ x ∧ x ≤ 9223372036854775807) ∧ (-9223372036854775808 ≤ y ∧ y ≤ 9223372036854775807) := by
  obtain ⟨cs, rfl, hs, hi⟩ := open_cells (n := 2) ht hts rfl hc h
  obtain ⟨x, hx, bx⟩ := hi 0 u .i64 rfl hu
  obtain ⟨y, hy, by'⟩ := hi 1 u .i64 rfl hu
  refine ⟨x, y, ?_, i64_has bx, i64_has by'⟩
  congr 1
  apply Array.ext_getElem?
  intro i
  match i with
  | 0 => exact hx
  | 1 => exact hy
  | k + 2 => rw [Array.getElem?_eq_none (by omega), Array.getElem?_eq_none (by simp)]
end
end Go.Proofs.YtfobmlgpjhghdaaGreatDoor
namespace Go.Proofs.YtfobmlgpjhghdaaGreatDoor
set_option linter.unusedVariables false
open Go.ChangeShapes Go.WideShapes Go.ChangeAt Go.RowKit
theorem c_rCompare (ah al bh bl : Nat) (h1 : Wd ah) (h2 : Wd al) (h3 : Wd bh) (h4 : Wd bl) (w : World) :
    Calls Tryz.prog 92 #[.agg #[.int .u64 ah, .int .u64 al], .agg #[.int .u64 bh, .int .u64 bl]] w fun e w' => e = .returned (.int .i64 (cmpN (val ah al) (val bh bl))) ∧ Gr w w' := by
  rcases Nat.lt_trichotomy ah bh with h | h | h
  · have e : val ah al < val bh bl := by unfold val Wd at *; omega
    rw [cmpN_lt e]
    clear h1 h2 h3 h4 e
    have hd : decide (ah < bh) = true := decide_eq_true h
    go_enter Tryz.func92, Tryz.ntmps92
    go_wp2
    go_ret
    exact ⟨rfl, by go_grown⟩
  · subst h
    rcases Nat.lt_trichotomy al bl with g | g | g
    · have e : val ah al < val ah bl := by unfold val; omega
      rw [cmpN_lt e]
      clear h1 h2 h3 h4 e
      have hd : decide (al < bl) = true := decide_eq_true g
      go_enter Tryz.func92, Tryz.ntmps92
      go_wp2
      go_ret
      exact ⟨rfl, by go_grown⟩
    · subst g
      rw [cmpN_eq rfl]
      clear h1 h2 h3 h4
      go_enter Tryz.func92, Tryz.ntmps92
      go_wp2
      go_ret
      exact ⟨rfl, by go_grown⟩
    · have e : val ah bl < val ah al := by unfold val; omega
      rw [cmpN_gt e]
      clear h1 h2 h3 h4 e
      have hd : decide (al < bl) = false := decide_eq_false (by omega)
      have hn : ((al : Int) == (bl : Int)) = false := by simp; omega
      go_enter Tryz.func92, Tryz.ntmps92
      go_wp2
      go_ret
      exact ⟨rfl, by go_grown⟩
  · have e : val bh bl < val ah al := by unfold val Wd at *; omega
    rw [cmpN_gt e]
    clear h1 h2 h3 h4 e
    have hd : decide (ah < bh) = false := decide_eq_false (by omega)
    have hn : ((ah : Int) == (bh : Int)) = false := by simp; omega
    go_enter Tryz.func92, Tryz.ntmps92
    go_wp2
    go_ret
    exact ⟨rfl, by go_grown⟩
set_option maxHeartbeats 1000000 in
set_option maxRecDepth 100000 in
theorem radd_core (ah al bh bl s0 sh sl : Nat) (k : Int) (ov cy : Bool) (w : World)
    (e1 : IntKind.u64.wrap ((ah : Int) + (bh : Int)) = (s0 : Int)) (e2 : IntKind.u64.wrap ((al : Int) + (bl : Int)) = (sl : Int)) (hcy : decide (sl < al) = cy)
    (e3 : cy = true → IntKind.u64.wrap ((s0 : Int) + 1) = (sh : Int)) (e4 : cy = false → s0 = sh) (hk : decide (k < 0) = ov)
    (A1 : ∀ w, Calls Tryz.prog 92 #[.agg #[.int .u64 sh, .int .u64 sl], .agg #[.int .u64 ah, .int .u64 al]] w fun e w' => e = .returned (.int .i64 k) ∧ Gr w w') :
    Calls Tryz.prog 95 #[.agg #[.int .u64 ah, .int .u64 al], .agg #[.int .u64 bh, .int .u64 bl]] w fun e w' => e = .returned (.tuple #[.agg #[.int .u64 sh, .int .u64 sl], .bool ov]) ∧ Gr w w' := by
  have H1 := Lib.hid A1
  clear A1
  cases cy
  · obtain rfl := e4 rfl
    clear e3 e4
    go_enter Tryz.func95, Tryz.ntmps95
    go_wp2_with fail
    let Rc : World → Prop := fun w' => Gr w w' ∧ w'.cell? ⟨w.heap.size, 0, none⟩ = some (.int .u64 ah) ∧ w'.cell? ⟨w.heap.size, 1, none⟩ = some (.int .u64 al) ∧ w'.cell? ⟨w.heap.size + 1 + 1 + 1, 0, none⟩ = some (.int .u64 s0) ∧ w'.cell? ⟨w.heap.size + 1 + 1 + 1, 1, none⟩ = some (.int .u64 sl)
    refine Hd.wp_region_head 6 5 Rc (fun w' => Rc w' ∧ w'.cell? ⟨w.heap.size + 1 + 1, 0, none⟩ = some (.int .u64 0) ∧ w'.cell? ⟨w.heap.size + 1 + 1, 1, none⟩ = some (.int .u64 0) ∧ w'.frozen? ⟨w.heap.size + 1 + 1, 0, none⟩ = false ∧ w'.frozen? ⟨w.heap.size + 1 + 1, 1, none⟩ = false) (fun _ w' => Rc w' ∧ w'.cell? ⟨w.heap.size + 1 + 1, 0, none⟩ = some (.int .u64 s0) ∧ w'.cell? ⟨w.heap.size + 1 + 1, 1, none⟩ = some (.int .u64 sl)) (by kernel_rfl) (by simp only [List.getElem?_toArray, List.getElem?_cons_succ, List.getElem?_cons_zero] <;> rfl) (by kernel_rfl) (by intro _ _ h; cases h) ?_ ?_ ?_ ?_ ?_ ?_
    · intro a b h g
      exact ⟨⟨Gr.trans h.1.1 g, cell_gr g h.1.2.1, cell_gr g h.1.2.2.1, cell_gr g h.1.2.2.2.1, cell_gr g h.1.2.2.2.2⟩, cell_gr g h.2.1, cell_gr g h.2.2.1, frozen_gr g h.2.1 h.2.2.2.1, frozen_gr g h.2.2.1 h.2.2.2.2⟩
    · intro v a b h g
      exact ⟨⟨Gr.trans h.1.1 g, cell_gr g h.1.2.1, cell_gr g h.1.2.2.1, cell_gr g h.1.2.2.2.1, cell_gr g h.1.2.2.2.2⟩, cell_gr g h.2.1, cell_gr g h.2.2⟩
    · intro a h; exact h.1
    · intro v a h; exact h.1
    · refine ⟨⟨by go_grown, by go_simp, by go_simp, by go_simp, by go_simp⟩, by go_simp, by go_simp, by go_simp, by go_simp⟩
    · intro KQ hKQ
      repeat (first | (refine Hd.wpG_skip (by decide) rfl ?_; simp only [Act.put, List.setIfInBounds_toArray, List.set_cons_zero, List.set_cons_succ]) | (refine Hd.wpG_want (by decide) rfl ?_; apply Exists.intro; refine ⟨?_, ?_⟩; (· intro wx gx; (have gx0 := gx.2.1; have gx1 := gx.2.2.1; have gx2 := gx.2.2.2.1; have gx3 := gx.2.2.2.2; clear gx); all_goals (apply Hd.gAt_of_quiet; intro K hK; go_big_quiet_op; first | exact hK _ rfl | (apply Exists.intro; refine ⟨fun _ => ?_, ?_⟩; (· (go_at_call 92; with_reducible refine (H1.out _).mono ?_; rintro e w' ⟨rfl, hg⟩; exact ⟨rfl, spread_gr hg⟩)); exact hK _ rfl))); try simp only [Act.put, List.setIfInBounds_toArray, List.set_cons_zero, List.set_cons_succ]))
      refine Hd.wpG_k (by decide) ?_ ?_
      · rintro w' ⟨⟨gx, gx0, gx1, gx2, gx3⟩, gx4, gx5, gx6, gx7⟩
        unfold Oper.wp
        go_simp
        exact ⟨by go_grown, by go_simp, by go_simp, by go_simp, by go_simp⟩
      refine Hd.wpG_nil (hKQ _ ?_)
      clear hKQ KQ
      rintro v w' ⟨⟨gx, gx0, gx1, gx2, gx3⟩, gx4, gx5⟩
      clear Rc
      go_wp2_with fail
      refine bodyPost_ret (v := .tuple #[.agg #[.int .u64 s0, .int .u64 sl], .bool ov]) (by simp [results, Tryz.results95, go_sem, gx4, gx5]) rfl ⟨rfl, gx⟩
  · have e5 := e3 rfl
    clear e3 e4
    go_enter Tryz.func95, Tryz.ntmps95
    go_wp2_with fail
    let Rc : World → Prop := fun w' => Gr w w' ∧ w'.cell? ⟨w.heap.size, 0, none⟩ = some (.int .u64 ah) ∧ w'.cell? ⟨w.heap.size, 1, none⟩ = some (.int .u64 al) ∧ w'.cell? ⟨w.heap.size + 1 + 1 + 1, 0, none⟩ = some (.int .u64 sh) ∧ w'.cell? ⟨w.heap.size + 1 + 1 + 1, 1, none⟩ = some (.int .u64 sl)
    refine Hd.wp_region_head 6 5 Rc (fun w' => Rc w' ∧ w'.cell? ⟨w.heap.size + 1 + 1, 0, none⟩ = some (.int .u64 0) ∧ w'.cell? ⟨w.heap.size + 1 + 1, 1, none⟩ = some (.int .u64 0) ∧ w'.frozen? ⟨w.heap.size + 1 + 1, 0, none⟩ = false ∧ w'.frozen? ⟨w.heap.size + 1 + 1, 1, none⟩ = false) (fun _ w' => Rc w' ∧ w'.cell? ⟨w.heap.size + 1 + 1, 0, none⟩ = some (.int .u64 sh) ∧ w'.cell? ⟨w.heap.size + 1 + 1, 1, none⟩ = some (.int .u64 sl)) (by kernel_rfl) (by simp only [List.getElem?_toArray, List.getElem?_cons_succ, List.getElem?_cons_zero] <;> rfl) (by kernel_rfl) (by intro _ _ h; cases h) ?_ ?_ ?_ ?_ ?_ ?_
    · intro a b h g
      exact ⟨⟨Gr.trans h.1.1 g, cell_gr g h.1.2.1, cell_gr g h.1.2.2.1, cell_gr g h.1.2.2.2.1, cell_gr g h.1.2.2.2.2⟩, cell_gr g h.2.1, cell_gr g h.2.2.1, frozen_gr g h.2.1 h.2.2.2.1, frozen_gr g h.2.2.1 h.2.2.2.2⟩
    · intro v a b h g
      exact ⟨⟨Gr.trans h.1.1 g, cell_gr g h.1.2.1, cell_gr g h.1.2.2.1, cell_gr g h.1.2.2.2.1, cell_gr g h.1.2.2.2.2⟩, cell_gr g h.2.1, cell_gr g h.2.2⟩
    · intro a h; exact h.1
    · intro v a h; exact h.1
    · refine ⟨⟨by go_grown, by go_simp, by go_simp, by go_simp, by go_simp⟩, by go_simp, by go_simp, by go_simp, by go_simp⟩
    · intro KQ hKQ
      repeat (first | (refine Hd.wpG_skip (by decide) rfl ?_; simp only [Act.put, List.setIfInBounds_toArray, List.set_cons_zero, List.set_cons_succ]) | (refine Hd.wpG_want (by decide) rfl ?_; apply Exists.intro; refine ⟨?_, ?_⟩; (· intro wx gx; (have gx0 := gx.2.1; have gx1 := gx.2.2.1; have gx2 := gx.2.2.2.1; have gx3 := gx.2.2.2.2; clear gx); all_goals (apply Hd.gAt_of_quiet; intro K hK; go_big_quiet_op; first | exact hK _ rfl | (apply Exists.intro; refine ⟨fun _ => ?_, ?_⟩; (· (go_at_call 92; with_reducible refine (H1.out _).mono ?_; rintro e w' ⟨rfl, hg⟩; exact ⟨rfl, spread_gr hg⟩)); exact hK _ rfl))); try simp only [Act.put, List.setIfInBounds_toArray, List.set_cons_zero, List.set_cons_succ]))
      refine Hd.wpG_k (by decide) ?_ ?_
      · rintro w' ⟨⟨gx, gx0, gx1, gx2, gx3⟩, gx4, gx5, gx6, gx7⟩
        unfold Oper.wp
        go_simp
        exact ⟨by go_grown, by go_simp, by go_simp, by go_simp, by go_simp⟩
      refine Hd.wpG_nil (hKQ _ ?_)
      clear hKQ KQ
      rintro v w' ⟨⟨gx, gx0, gx1, gx2, gx3⟩, gx4, gx5⟩
      clear Rc
      go_wp2_with fail
      refine bodyPost_ret (v := .tuple #[.agg #[.int .u64 sh, .int .u64 sl], .bool ov]) (by simp [results, Tryz.results95, go_sem, gx4, gx5]) rfl ⟨rfl, gx⟩
end Go.Proofs.YtfobmlgpjhghdaaGreatDoor
namespace Go.Proofs.YtfobmlgpjhghdaaGreatDoor.Hm
set_option linter.unusedVariables false
set_option linter.unusedSimpArgs false
open Go.ChangeShapes Go.WideShapes Go.ChangeAt Go.RowKit Go.Proofs.YtfobmlgpjhghdaaGreatDoor.Hd
variable {P : Program} {ops : Array Oper} {md : Region.Mode} {Rc : World → Prop} {Pk : Nat → Act → Prop} {sp : Nat → Bool} {n : Nat}
def gOp (P : Program) (ops : Array Oper) (Rc : World → Prop) (Pk : Nat → Act → Prop) (sp : Nat → Bool) (i : Nat) (K : Act → Prop) (a : Act) : Prop :=
  if sp i = true then Pk i a ∧ K a else
  match ops[i]? with
  | none => K a
  | some o => if Region.wanted o (yielded ops a.tmps) = true then ∃ v, (∀ w, Rc w → gAt P o a w v) ∧ K (a.put o.dst v) else K (a.put o.dst undef)
theorem gOp_mono {i : Nat} {a : Act} {K K' : Act → Prop} (h : ∀ a, K a → K' a) (hh : gOp P ops Rc Pk sp i K a) : gOp P ops Rc Pk sp i K' a := by
  unfold gOp at *
  split
  · rename_i hi; rw [if_pos hi] at hh; exact ⟨hh.1, h _ hh.2⟩
  · rename_i hi
    rw [if_neg hi] at hh
    split
    · rename_i ho; simp only [ho] at hh; exact h _ hh
    · rename_i o ho
      simp only [ho] at hh
      split
      · rename_i hw; rw [if_pos hw] at hh; exact ⟨hh.choose, hh.choose_spec.1, h _ hh.choose_spec.2⟩
      · rename_i hw; rw [if_neg hw] at hh; exact h _ hh
theorem gOp_mono' {i : Nat} {o : Oper} {a : Act} {K K' : Act → Prop} (hik : ¬ sp i = true) (ho : ops[i]? = some o) (h : ∀ u, K (a.put o.dst u) → K' (a.put o.dst u)) (hh : gOp P ops Rc Pk sp i K a) : gOp P ops Rc Pk sp i K' a := by
  unfold gOp at *
  rw [if_neg hik] at *
  simp only [ho] at *
  split
  · rename_i hw; rw [if_pos hw] at hh; exact ⟨hh.choose, hh.choose_spec.1, h _ hh.choose_spec.2⟩
  · rename_i hw; rw [if_neg hw] at hh; exact h _ hh
def wpG (P : Program) (ops : Array Oper) (Rc : World → Prop) (Pk : Nat → Act → Prop) (sp : Nat → Bool) (Q : Act → Prop) : List Oper → Nat → Act → Prop
  | [], _, a => Q a
  | o :: rest, i, a => if sp i = true then Pk i a ∧ wpG P ops Rc Pk sp Q rest (i + 1) a else
      if Region.wanted o (yielded ops a.tmps) = true then ∃ v, (∀ w, Rc w → gAt P o a w v) ∧ wpG P ops Rc Pk sp Q rest (i + 1) (a.put o.dst v) else wpG P ops Rc Pk sp Q rest (i + 1) (a.put o.dst undef)
def wpH (P : Program) (md : Region.Mode) (ops : Array Oper) (Rc : World → Prop) (Pk : Nat → Act → Prop) (sp : Nat → Bool) (n : Nat) (L : Array Bool → Act → Prop) : Nat → Array Bool → Act → Prop
  | 0, listed, a => L listed a
  | f + 1, listed, a => Region.ready md ops listed ≠ [] ∧ ∀ i ∈ Region.ready md ops listed, i < n ∧ gOp P ops Rc Pk sp i (wpH P md ops Rc Pk sp n L f (listed.setIfInBounds i true)) a
theorem gOp_of_GIn {i : Nat} {o : Oper} {v : Value} {a : Act} (hik : ¬ sp i = true) (hi : ops[i]? = some o) (hy : GIn P ops Rc o v a) {K : Act → Prop} (h : K (a.put o.dst v)) : gOp P ops Rc Pk sp i K a := by
  unfold gOp
  rw [if_neg hik]
  simp only [hi]
  rcases hy with ⟨hw, hv⟩ | ⟨hw, rfl⟩
  · rw [if_pos hw]; exact ⟨v, hv, h⟩
  · rw [if_neg (by rw [hw]; decide)]; exact h
theorem gIn_of_gOp {i : Nat} {o : Oper} {a : Act} {K : Act → Prop} (hik : ¬ sp i = true) (hi : ops[i]? = some o) (h : gOp P ops Rc Pk sp i K a) : ∃ v, GIn P ops Rc o v a ∧ K (a.put o.dst v) := by
  unfold gOp at h
  rw [if_neg hik] at h
  simp only [hi] at h
  by_cases hw : Region.wanted o (yielded ops a.tmps) = true
  · rw [if_pos hw] at h
    obtain ⟨v, h1, h2⟩ := h
    exact ⟨v, .inl ⟨hw, h1⟩, h2⟩
  · rw [if_neg hw] at h
    exact ⟨undef, .inr ⟨by simpa using hw, rfl⟩, h⟩
theorem gOp_put {j : Nat} {oi oj : Oper} {v : Value} (hjk : ¬ sp j = true) (hj : ops[j]? = some oj) (hap : oi.apart ops oj = true)
    (hsi : ∀ cs b, oi.op ≠ .select cs b) (hsj : ∀ cs b, oj.op ≠ .select cs b) {K : Act → Prop} {a : Act}
    (hy : GIn P ops Rc oi v a) (h : gOp P ops Rc Pk sp j K (a.put oi.dst v)) :
    gOp P ops Rc Pk sp j (fun a' => GIn P ops Rc oi v a' ∧ K (a'.put oi.dst v)) a := by
  obtain ⟨h1, h2, h3⟩ := Oper.apart_spec hap
  have h2' : ∀ d, oj.dst = some d → oi.dst ≠ some d := fun d hd hi => h2 d hi hd
  have keep : ∀ u, GIn P ops Rc oi v (a.put oj.dst u) := fun u => GIn.put (ops := ops) hsi h3 h2' hy
  unfold gOp at *
  rw [if_neg hjk] at *
  simp only [hj] at *
  rw [wanted_put oj a oi.dst v h1] at h
  split
  · rename_i hw
    rw [if_pos hw] at h
    obtain ⟨u, hu, hn⟩ := h
    refine ⟨u, fun w hw' => gAt_unput (ops := ops) hsj h1 h2 (fun x hx => put_cancel hx) (hu w hw'), keep u, by rw [← Act.put_comm a v u h2]; exact hn⟩
  · rename_i hw
    rw [if_neg hw] at h
    exact ⟨keep _, by rw [← Act.put_comm a v undef h2]; exact h⟩
theorem wpH_first {i : Nat} {oi : Oper} {v : Value} {L : Array Bool → Act → Prop} (hP1 : ∀ (k : Nat) (oi ok : Oper) a v, sp k = true → ops[k]? = some ok → oi.apart ops ok = true → Pk k (a.put oi.dst v) → Pk k a) (hik : ¬ sp i = true) (hi : ops[i]? = some oi) (hsel : ∀ (j : Nat) (o : Oper) cs b, ops[j]? = some o → o.op ≠ .select cs b)
    (hs : Region.sinkB md ops n = true) (hc : Region.chainB md ops n = true) (hn : n < ops.size) (hin : i < n)
    (hdone : ∀ listed a, L listed a → ∀ j ∈ Region.ready md ops listed, n ≤ j) :
    ∀ (f : Nat) (listed : Array Bool) (a : Act), HeadInv md ops n listed →
      (∀ j oj, ops[j]? = some oj → j ≠ i → listed.getD j true = false → (∀ e ∈ oj.after, Region.binds md e = true → e.on ≠ i) → oi.apart ops oj = true) →
      i ∈ Region.ready md ops listed → GIn P ops Rc oi v a →
      wpH P md ops Rc Pk sp n L f (listed.setIfInBounds i true) (a.put oi.dst v) → wpH P md ops Rc Pk sp n L (f + 1) listed a := by
  intro f
  induction f with
  | zero =>
    intro listed a inv _ hr hy H
    have hun := (mem_ready.1 hr).1
    refine ⟨fun h => (by rw [h] at hr; cases hr), fun j hj => ?_⟩
    have hjn : j < n := by
      rcases Nat.lt_or_ge j n with h | h
      · exact h
      · exact absurd hj (tail_waits hs hc hn inv _ i rfl hin hun j h)
    refine ⟨hjn, ?_⟩
    by_cases hji : j = i
    · subst hji; exact gOp_of_GIn hik hi hy H
    · have := hdone _ _ H j (ready_mono hj hji)
      omega
  | succ f ih =>
    intro listed a inv hfree hr hy H
    have hun := (mem_ready.1 hr).1
    refine ⟨fun h => (by rw [h] at hr; cases hr), fun j hj => ?_⟩
    have hjn : j < n := by
      rcases Nat.lt_or_ge j n with h | h
      · exact h
      · exact absurd hj (tail_waits hs hc hn inv _ i rfl hin hun j h)
    refine ⟨hjn, ?_⟩
    by_cases hji : j = i
    · subst hji; exact gOp_of_GIn hik hi hy H
    · have h1 := (H.2 j (ready_mono hj hji)).2
      obtain ⟨hjun, oj, hoj, hall⟩ := mem_ready.1 hj
      have hnot : ∀ e ∈ oj.after, Region.binds md e = true → e.on ≠ i := fun e he hb heq => by
        have h1 := hall e he hb
        rw [heq, getD_both hun] at h1
        cases h1
      have hfree' : ∀ m ok, ops[m]? = some ok → m ≠ i → (listed.setIfInBounds j true).getD m true = false →
          (∀ e ∈ ok.after, Region.binds md e = true → e.on ≠ i) → oi.apart ops ok = true := fun m ok hm hmi hun hno => by
        refine hfree m ok hm hmi ?_ hno
        by_cases hjm : j = m
        · subst hjm; exact hjun
        · rw [getD_set_ne true hjm] at hun; exact hun
      have go : ∀ a', GIn P ops Rc oi v a' → wpH P md ops Rc Pk sp n L f ((listed.setIfInBounds i true).setIfInBounds j true) (a'.put oi.dst v) → wpH P md ops Rc Pk sp n L (f + 1) (listed.setIfInBounds j true) a' := fun a' hy' h3 => by
        refine ih (listed.setIfInBounds j true) a' (inv.set hj hjn) hfree' (ready_mono hr (Ne.symm hji)) hy' ?_
        rw [Array.setIfInBounds_comm _ _ hji]
        exact h3
      by_cases hjk : sp j = true
      · unfold gOp at h1 ⊢
        rw [if_pos hjk] at h1 ⊢
        exact ⟨hP1 j oi oj a v hjk hoj (hfree j oj hoj hji hjun hnot) h1.1, go a hy h1.2⟩
      · have h2 := gOp_put hjk hoj (hfree j oj hoj hji hjun hnot) (fun cs b => hsel i oi cs b hi) (fun cs b => hsel j oj cs b hoj) hy h1
        exact gOp_mono (fun a' h3 => go a' h3.1 h3.2) h2
theorem wpH_first_alloc {k : Nat} {ok : Oper} {L : Array Bool → Act → Prop} (hk : sp k = true) (hP2 : ∀ (oj : Oper) a v, ok.apart ops oj = true → Pk k a → Pk k (a.put oj.dst v)) (hs : Region.sinkB md ops n = true) (hc : Region.chainB md ops n = true) (hn : n < ops.size) (hkn : k < n)
    (hdone : ∀ listed a, L listed a → ∀ j ∈ Region.ready md ops listed, n ≤ j) :
    ∀ (f : Nat) (listed : Array Bool) (a : Act), HeadInv md ops n listed →
      (∀ j oj, ops[j]? = some oj → j ≠ k → listed.getD j true = false → (∀ e ∈ oj.after, Region.binds md e = true → e.on ≠ k) → ok.apart ops oj = true) →
      k ∈ Region.ready md ops listed → Pk k a →
      wpH P md ops Rc Pk sp n L f (listed.setIfInBounds k true) a → wpH P md ops Rc Pk sp n L (f + 1) listed a := by
  intro f
  induction f with
  | zero =>
    intro listed a inv _ hr hp H
    have hun := (mem_ready.1 hr).1
    refine ⟨fun h => (by rw [h] at hr; cases hr), fun j hj => ?_⟩
    have hjn : j < n := by
      rcases Nat.lt_or_ge j n with h | h
      · exact h
      · exact absurd hj (tail_waits hs hc hn inv _ k rfl hkn hun j h)
    refine ⟨hjn, ?_⟩
    by_cases hjk : j = k
    · subst hjk; unfold gOp; rw [if_pos hk]; exact ⟨hp, H⟩
    · have := hdone _ _ H j (ready_mono hj hjk)
      omega
  | succ f ih =>
    intro listed a inv hfree hr hp H
    have hun := (mem_ready.1 hr).1
    refine ⟨fun h => (by rw [h] at hr; cases hr), fun j hj => ?_⟩
    have hjn : j < n := by
      rcases Nat.lt_or_ge j n with h | h
      · exact h
      · exact absurd hj (tail_waits hs hc hn inv _ k rfl hkn hun j h)
    refine ⟨hjn, ?_⟩
    by_cases hjk : j = k
    · subst hjk; unfold gOp; rw [if_pos hk]; exact ⟨hp, H⟩
    · have h1 := (H.2 j (ready_mono hj hjk)).2
      obtain ⟨hjun, oj, hoj, hall⟩ := mem_ready.1 hj
      have hnot : ∀ e ∈ oj.after, Region.binds md e = true → e.on ≠ k := fun e he hb heq => by
        have h1 := hall e he hb
        rw [heq, getD_both hun] at h1
        cases h1
      have hfree' : ∀ m om, ops[m]? = some om → m ≠ k → (listed.setIfInBounds j true).getD m true = false →
          (∀ e ∈ om.after, Region.binds md e = true → e.on ≠ k) → ok.apart ops om = true := fun m om hm hmi hun hno => by
        refine hfree m om hm hmi ?_ hno
        by_cases hjm : j = m
        · subst hjm; exact hjun
        · rw [getD_set_ne true hjm] at hun; exact hun
      by_cases hsj : sp j = true
      · unfold gOp at h1 ⊢
        rw [if_pos hsj] at h1 ⊢
        refine ⟨h1.1, ih (listed.setIfInBounds j true) a (inv.set hj hjn) hfree' (ready_mono hr (Ne.symm hjk)) hp ?_⟩
        rw [Array.setIfInBounds_comm _ _ hjk]
        exact h1.2
      refine gOp_mono' hsj hoj (fun u h3 => ih (listed.setIfInBounds j true) _ (inv.set hj hjn) hfree' (ready_mono hr (Ne.symm hjk)) (hP2 oj a u (hfree j oj hoj hjk hjun hnot) hp) ?_) h1
      rw [Array.setIfInBounds_comm _ _ hjk]
      exact h3
theorem wpH_lex {g : Nat} {Lq : Act → Prop} (hP1 : ∀ (k : Nat) (oi ok : Oper) a v, sp k = true → ops[k]? = some ok → oi.apart ops ok = true → Pk k (a.put oi.dst v) → Pk k a) (hP2 : ∀ (k : Nat) (ok oj : Oper) a v, sp k = true → ops[k]? = some ok → ok.apart ops oj = true → Pk k a → Pk k (a.put oj.dst v)) (hsel : Region.noSelect ops = true) (hs : Region.sinkB md ops n = true) (hc : Region.chainB md ops n = true) (hn : n < ops.size) :
    ∀ (l : List Oper) (i : Nat) (listed : Array Bool) (a : Act), (∀ j, j < l.length → l[j]? = ops[i + j]?) → i + l.length = n → HeadInv md ops n listed →
    (∀ j, listed.getD j false = decide (j < i)) → listed.size = ops.size → Region.lexHead md ops g l.length i listed = true → wpG P ops Rc Pk sp Lq l i a →
    wpH P md ops Rc Pk sp n (fun listed' a' => (Region.seqB md ops g n listed' = true ∧ ∀ j, listed'.getD j false = decide (j < n)) ∧ Lq a') l.length listed a
  | [], i, listed, a, _, hk, _, hd, _, hB, h => by
    have : i = n := by simpa using hk
    subst this
    exact ⟨⟨by simpa [Region.lexHead] using hB, hd⟩, h⟩
  | o :: l, i, listed, a, hl, hk, inv, hd, hsz, hB, h => by
    have h0 : ops[i]? = some o := by simpa using (hl 0 (by simp)).symm
    simp only [List.length_cons, Region.lexHead, Bool.and_eq_true] at hB
    obtain ⟨⟨hr, hf⟩, hB'⟩ := hB
    have hkn : i < n := by simp only [List.length_cons] at hk; omega
    have hr' : i ∈ Region.ready md ops listed := by simpa using hr
    have next : ∀ a', wpG P ops Rc Pk sp Lq l (i + 1) a' → wpH P md ops Rc Pk sp n (fun listed' a' => (Region.seqB md ops g n listed' = true ∧ ∀ j, listed'.getD j false = decide (j < n)) ∧ Lq a') l.length (listed.setIfInBounds i true) a' := fun a' h' =>
      wpH_lex hP1 hP2 hsel hs hc hn l (i + 1) _ _ (fun j hj => by have := hl (j + 1) (by simp; omega); simpa [Nat.add_assoc, Nat.add_comm 1 j] using this) (by simp only [List.length_cons] at hk; omega) (inv.set hr' hkn) (fun j => by
        by_cases hji : i = j
        · subst hji
          simp [hsz, show i < ops.size by omega]
        · rw [getD_set_ne false hji, hd j]
          rw [decide_eq_decide]
          omega) (by simp [hsz]) hB' h'
    unfold wpG at h
    by_cases hik : sp i = true
    · rw [if_pos hik] at h
      exact wpH_first_alloc (ok := o) hik (fun oj a v => hP2 i o oj a v hik h0) hs hc hn hkn (fun listed' a' hL => seqB_ready hL.1.1) l.length listed a inv (Region.free_spec h0 hf) hr' h.1 (next a h.2)
    · rw [if_neg hik] at h
      have hst : gOp P ops Rc Pk sp i (wpG P ops Rc Pk sp Lq l (i + 1)) a := by unfold gOp; rw [if_neg hik]; simp only [h0]; exact h
      obtain ⟨v, hy, hK⟩ := gIn_of_gOp hik h0 hst
      exact wpH_first hP1 hik h0 (Region.noSelect_spec hsel) hs hc hn hkn (fun listed' a' hL => seqB_ready hL.1.1) l.length listed a inv (Region.free_spec h0 hf) hr' hy (next _ hK)
theorem wpAny_of_H {g : Nat} {L : Array Bool → Act → Prop} {Q' : Exit → Act → World → Prop} (Rel : Array Bool → Act → Act → World → Prop)
    (hRc : ∀ l a b w, Rel l a b w → Rc w)
    (hquiet : ∀ (i : Nat) (o : Oper) l a b w w' u, i < n → ¬ sp i = true → ops[i]? = some o → Rel l a b w → Gr w w' → Rel (l.setIfInBounds i true) (a.put o.dst u) (b.put o.dst u) w')
    (hsame : ∀ (i : Nat) (o : Oper) l a b w, i < n → ¬ sp i = true → ops[i]? = some o → Rel l a b w → Region.wanted o (yielded ops b.tmps) = Region.wanted o (yielded ops a.tmps) ∧ ∀ v, gAt P o a w v → gAt P o b w v)
    (hspec : ∀ (i : Nat) (o : Oper) l a b w, i < n → sp i = true → ops[i]? = some o → i ∈ Region.ready md ops l → l.size = ops.size → Rel l a b w → Pk i a → Region.wanted o (yielded ops b.tmps) = true ∧ o.wp P b w (fun b' w' => Rel (l.setIfInBounds i true) a b' w') (fun _ _ _ => False))
    (hL : ∀ listed a b w, L listed a → Rel listed a b w → wpAny P md ops Q' g listed b w) :
    ∀ (f : Nat) (listed : Array Bool) (a b : Act) (w : World), listed.size = ops.size → Rel listed a b w → wpH P md ops Rc Pk sp n L f listed a → wpAny P md ops Q' (f + g) listed b w
  | 0, listed, a, b, w, _, hR, h => by rw [Nat.zero_add]; exact hL _ _ _ _ h hR
  | f + 1, listed, a, b, w, hsz, hR, h => by
    rw [show f + 1 + g = (f + g) + 1 by omega]
    refine ⟨fun h0 => absurd h0 h.1, fun i hi => ?_⟩
    obtain ⟨hin, hop⟩ := h.2 i hi
    obtain ⟨_, oi, hoi, _⟩ := mem_ready.1 hi
    have hsz' : (listed.setIfInBounds i true).size = ops.size := by simp [hsz]
    have hrec : ∀ a' b' w', Rel (listed.setIfInBounds i true) a' b' w' → wpH P md ops Rc Pk sp n L f (listed.setIfInBounds i true) a' → wpAny P md ops Q' (f + g) (listed.setIfInBounds i true) b' w' := fun a' b' w' hr hh => wpAny_of_H Rel hRc hquiet hsame hspec hL f _ a' b' w' hsz' hr hh
    unfold gOp at hop
    by_cases hik : sp i = true
    · rw [if_pos hik] at hop
      obtain ⟨hw, hd⟩ := hspec i oi listed a b w hin hik hoi hi hsz hR hop.1
      unfold wpOp
      simp only [hoi]
      rw [if_pos hw]
      refine .inl ?_
      unfold Oper.wp at hd ⊢
      exact upon_map (a := b) (b := b) (fun u w' hu => hrec a _ _ hu hop.2) (fun dd w' hu => hrec a _ _ hu hop.2) hd
    · rw [if_neg hik] at hop
      simp only [hoi] at hop
      obtain ⟨hwe, hg⟩ := hsame i oi listed a b w hin hik hoi hR
      by_cases hw : Region.wanted oi (yielded ops a.tmps) = true
      · rw [if_pos hw] at hop
        obtain ⟨u, hu, hK⟩ := hop
        exact wpOp_of_gAt hoi (by rw [hwe]; exact hw) (hg u (hu w (hRc _ _ _ _ hR))) fun w' hgw => hrec (a.put oi.dst u) _ _ (hquiet i oi listed a b w w' u hin hik hoi hR hgw) hK
      · rw [if_neg hw] at hop
        unfold wpOp
        simp only [hoi]
        rw [if_neg (by rw [hwe]; exact hw)]
        exact hrec (a.put oi.dst undef) _ _ (hquiet i oi listed a b w w undef hin hik hoi hR (Below.refl _ _)) hop
theorem cell_of_heap {w : World} {b : Nat} {zs : Array Value} {T : TypeId} (h : w.heap[b]? = some (.cells zs T)) (i : Nat) : w.cell? ⟨b, i, none⟩ = zs[i]? := by simp [World.cell?, h]
theorem frozen_of_heap {w : World} {b : Nat} {zs : Array Value} {T : TypeId} (h : w.heap[b]? = some (.cells zs T)) (i : Nat) : w.frozen? ⟨b, i, none⟩ = false := by simp [World.frozen?, h]
theorem heap_set_same {w : World} {b i : Nat} {zs : Array Value} {T : TypeId} {v : Value} (h : w.heap[b]? = some (.cells zs T)) : (w.setCell ⟨b, i, none⟩ v).heap[b]? = some (.cells (zs.setIfInBounds i v) T) := by
  simp only [World.setCell, Array.getElem?_modify, h, Option.map]
  simp
def Fills (P : Program) (ok : Oper) (w0 : World) (d : Tmp) (zs zs' : Array Value) (T : TypeId) (a : Act) : Prop :=
  ∀ B w, Gr w0 w → w0.heap.size ≤ B → w.heap[B]? = some (.cells zs T) → ok.wp P (a.put (some d) (.pointer (some ⟨B, 0, none⟩))) w (fun a' w' => a' = a.put (some d) (.pointer (some ⟨B, 0, none⟩)) ∧ Gr w0 w' ∧ w'.heap[B]? = some (.cells zs' T)) (fun _ _ _ => False)
theorem Fills.put {ok : Oper} {w0 : World} {d : Tmp} {zs zs' : Array Value} {T : TypeId} {a : Act} {x : Value} {e : Option Tmp} (hn : ok.dst = none) (hs : ∀ cs b, ok.op ≠ .select cs b) (hl : ∀ t, e = some t → t ∉ ok.looksAt ops) (hd : e ≠ some d)
    (h : Fills P ok w0 d zs zs' T a) : Fills P ok w0 d zs zs' T (a.put e x) := by
  intro B w g hB hw
  have h := h B w g hB hw
  have hc : (a.put e x).put (some d) (.pointer (some ⟨B, 0, none⟩)) = (a.put (some d) (.pointer (some ⟨B, 0, none⟩))).put e x := (by rw [Act.put_comm a x _ (fun t ht hd' => hd (ht.trans hd'.symm))])
  unfold Oper.wp at *
  rw [hc, execOp_put (ops := ops) ok hs _ e x hl]
  refine upon_map (fun u w' hu => ?_) (fun dd w' hu => ?_) h
  · rw [hn] at hu ⊢
    exact ⟨rfl, hu.2⟩
  · rw [hn] at hu
    exact (no_defer (x := none) (v := undef) hu.1).elim
theorem Fills.unput {ok : Oper} {w0 : World} {d : Tmp} {zs zs' : Array Value} {T : TypeId} {a : Act} {x : Value} {e : Option Tmp} (hn : ok.dst = none) (hs : ∀ cs b, ok.op ≠ .select cs b) (hl : ∀ t, e = some t → t ∉ ok.looksAt ops) (hd : e ≠ some d)
    (h : Fills P ok w0 d zs zs' T (a.put e x)) : Fills P ok w0 d zs zs' T a := by
  intro B w g hB hw
  have h := h B w g hB hw
  have hc : (a.put e x).put (some d) (.pointer (some ⟨B, 0, none⟩)) = (a.put (some d) (.pointer (some ⟨B, 0, none⟩))).put e x := (by rw [Act.put_comm a x _ (fun t ht hd' => hd (ht.trans hd'.symm))])
  unfold Oper.wp at *
  rw [hc, execOp_put (ops := ops) ok hs _ e x hl] at h
  refine upon_map (fun u w' hu => ?_) (fun dd w' hu => ?_) h
  · rw [hn] at hu ⊢
    exact ⟨rfl, hu.2⟩
  · rw [hn] at hu
    exact (no_defer (x := none) (v := undef) hu.1).elim
def madeB (ops : Array Oper) (n k1 k2 : Nat) (d : Tmp) : Bool :=
  Region.lexTailB .any ops n && decide (k1 < k2) && decide (k2 < n) &&
  (match ops[k1]? with | some o => o.dst == some d && o.guard.isNone | none => false) &&
  (match ops[k2]? with | some o => o.dst == none && o.guard.isNone && o.after.any (fun e => e.on == k1 && Region.binds .any e) && (o.looksAt ops).contains d | none => false) &&
  (List.range n).all fun j => j == k1 || j == k2 || match ops[j]? with | some o => !(o.looksAt ops).contains d && o.dst != some d | none => true
def RelM (k1 k2 : Nat) (d : Tmp) (w0 : World) (zs zs' : Array Value) (T : TypeId) (l : Array Bool) (a b : Act) (w : World) : Prop :=
  Gr w0 w ∧ ((l.getD k1 false = true ∧ ∃ B, b = a.put (some d) (.pointer (some ⟨B, 0, none⟩)) ∧ w0.heap.size ≤ B ∧ w.heap[B]? = some (.cells (if l.getD k2 false = true then zs' else zs) T)) ∨ (l.getD k1 false = false ∧ l.getD k2 false = false ∧ b = a))
theorem heap_gr {a b : World} {k : Nat} {o : Obj} (g : Gr a b) (h : a.heap[k]? = some o) : b.heap[k]? = some o := by
  have hb : k < a.heap.size := (Array.getElem?_eq_some_iff.1 h).1
  rw [g.block k hb]; exact h
theorem wp_region_made {id : Nat} {Q : Exit → Act → World → Prop} {a : Act} {w : World} {l : List Oper} {o1 o2 : Oper} (n k1 k2 : Nat) (d : Tmp) (zs zs' : Array Value) (T : TypeId) (hm : P.follows .mixedOrders = true) (hk1 : l.toArray[k1]? = some o1) (hk2 : l.toArray[k2]? = some o2) (hB : madeB l.toArray n k1 k2 d = true)
    (hal : ∀ b w', o1.wp P b w' (fun b' w'' => b' = b.put (some d) (.pointer (some ⟨w'.heap.size, 0, none⟩)) ∧ w'' = w'.alloc (.cells zs T)) (fun _ _ _ => False))
    (h' : ∀ K : Act → Prop, (∀ a', (∀ B w', Gr w w' → w.heap.size ≤ B → w'.heap[B]? = some (.cells zs' T) → wpList P l.toArray Q (l.drop n) (a'.put (some d) (.pointer (some ⟨B, 0, none⟩))) w') → K a') →
      wpG P l.toArray (Gr w) (fun i => if i = k2 then Fills P o2 w d zs zs' T else fun _ => True) (fun i => i == k1 || i == k2) K (l.take n) 0 a) : (Code.region id l.toArray true).wp P Q a w := by
  have h := h' (fun a' => ∀ B w', Gr w w' → w.heap.size ≤ B → w'.heap[B]? = some (.cells zs' T) → wpList P l.toArray Q (l.drop n) (a'.put (some d) (.pointer (some ⟨B, 0, none⟩))) w') (fun a' x => x)
  simp only [madeB, Region.lexTailB, Bool.and_eq_true, decide_eq_true_eq, hk1, hk2, beq_iff_eq, Option.isNone_iff_eq_none] at hB
  obtain ⟨⟨⟨⟨⟨⟨⟨⟨⟨hsel, hn⟩, hs⟩, hc⟩, hlex⟩, h12⟩, h2n⟩, hd1, hg1'⟩, ⟨⟨hd2, hg2⟩, hwait⟩, hlook⟩, hap⟩ := hB
  obtain ⟨e0, he0, he1⟩ : ∃ e, e ∈ o2.after ∧ (e.on = k1 ∧ Region.binds .any e = true) := by
    rw [Array.any_eq_true'] at hwait
    obtain ⟨e, h1, h2⟩ := hwait
    exact ⟨e, h1, by simpa using h2⟩
  have hn' : n < l.length := by simpa using hn
  have htl : (l.take n).length = n := by simp; omega
  have hdl : (l.drop n).length = l.toArray.size - n := by simp
  have inv0 : HeadInv .any l.toArray n (Array.replicate l.toArray.size false) :=
    ⟨by simp, fun j oj _ hl => (by rw [getD_replicate_false] at hl; cases hl), fun t _ ht => getD_in (by simpa using ht) (getD_replicate_false _ _)⟩
  have hs2 : ∀ cs b, o2.op ≠ .select cs b := fun cs b => Region.noSelect_spec hsel k2 o2 cs b hk2
  have sp2 : ∀ i, ((i == k1 || i == k2) = true) → i = k1 ∨ i = k2 := fun i hi => by simpa using hi
  have nsp : ∀ i, ¬ ((i == k1 || i == k2) = true) → i ≠ k1 ∧ i ≠ k2 := fun i hi => by simpa using hi
  have hdm : d ∈ o2.looksAt l.toArray := by simpa using hlook
  have n12 : ¬ k1 = k2 := by omega
  have H := wpH_lex (md := .any) (g := l.toArray.size - n) (Pk := fun i => if i = k2 then Fills P o2 w d zs zs' T else fun _ => True) (sp := fun i => i == k1 || i == k2) (fun k oi ok a v hk ho hap2 hD => by
    rcases sp2 k hk with rfl | rfl
    · rw [if_neg n12]; trivial
    · rw [if_pos rfl] at hD ⊢
      rw [hk2] at ho
      cases ho
      exact Fills.unput hd2 hs2 (Oper.apart_spec hap2).1 (fun hh => (Oper.apart_spec hap2).1 d hh hdm) hD) (fun k ok oj a v hk ho hap2 hD => by
    rcases sp2 k hk with rfl | rfl
    · rw [if_neg n12]; trivial
    · rw [if_pos rfl] at hD ⊢
      rw [hk2] at ho
      cases ho
      exact Fills.put hd2 hs2 (Oper.apart_spec hap2).2.2 (fun hh => (Oper.apart_spec hap2).2.2 d hh hdm) hD) hsel hs hc hn (l.take n) 0 _ a (fun j hj => by
    have hj' : j < n := by rw [htl] at hj; exact hj
    simp [hj']) (by simpa using htl) inv0 (fun j => by rw [getD_replicate_false]; simp) (by simp) (by rw [htl]; exact hlex) h
  rw [htl] at H
  refine wp_region_any hm ?_
  have hw0 : Gr w { w with drawn := w.drawn + 1 } := (Below.refl _ _).drew
  have hap' : ∀ i o, l.toArray[i]? = some o → i < n → ¬ ((i == k1 || i == k2) = true) → (∀ t, some d = some t → t ∉ o.looksAt l.toArray) ∧ (∀ t, some d = some t → o.dst ≠ some t) := fun i o ho hin hnsp => by
    have := List.all_eq_true.1 hap i (List.mem_range.2 hin)
    obtain ⟨h1, h2⟩ := nsp i hnsp
    simp only [ho, Bool.or_eq_true, beq_iff_eq, h1, h2, false_or, Bool.and_eq_true] at this
    simpa using this
  have := wpAny_of_H (Q' := Q) (g := l.toArray.size - n) (RelM k1 k2 d w zs zs' T) (fun _ _ _ _ h => h.1) ?_ ?_ ?_ (fun listed a' b' w' hL hR => by
    obtain ⟨hg, hr⟩ := hR
    have e1 := hL.1.2 k1
    have e2 := hL.1.2 k2
    rw [decide_eq_true (by omega)] at e1 e2
    have hq : wpList P l.toArray Q (l.drop n) b' w' := by
      rcases hr with ⟨-, B, rfl, hB1, hB2⟩ | ⟨h1, -⟩
      · rw [if_pos e2] at hB2
        exact hL.2 B w' hg hB1 hB2
      · rw [e1] at h1; cases h1
    have := wpAny_of_seq (md := .any) (Q' := Q) (l.drop n) n listed b' w' (fun j => by simp [List.getElem?_drop]) (by rw [hdl]; exact hL.1.1) hq
    rwa [hdl] at this) n _ a a { w with drawn := w.drawn + 1 } (by simp) ⟨hw0, .inr ⟨getD_replicate_false _ _, getD_replicate_false _ _, rfl⟩⟩ H
  · rw [show n + (l.toArray.size - n) = l.toArray.size by omega] at this
    exact this
  · intro i o l' a b w1 w2 u hin hnsp ho hR hg
    obtain ⟨h1, h2⟩ := nsp i hnsp
    obtain ⟨hg1, hr⟩ := hR
    refine ⟨Gr.trans hg1 hg, ?_⟩
    rw [getD_set_ne false h1, getD_set_ne false h2]
    rcases hr with ⟨h3, B, rfl, hB1, hB2⟩ | ⟨h3, h4, rfl⟩
    · exact .inl ⟨h3, B, Act.put_comm a _ u (hap' i o ho hin hnsp).2, hB1, heap_gr hg hB2⟩
    · exact .inr ⟨h3, h4, rfl⟩
  · intro i o l' a b w1 hin hnsp ho hR
    obtain ⟨hl', hn''⟩ := hap' i o ho hin hnsp
    obtain ⟨hg1, hr⟩ := hR
    rcases hr with ⟨h3, B, rfl, hB1, hB2⟩ | ⟨h3, h4, rfl⟩
    · exact ⟨wanted_put o a (some d) _ hl', fun v hv => gAt_put (ops := l.toArray) (Region.noSelect_spec hsel i o · · ho) hl' hn'' hv⟩
    · exact ⟨rfl, fun v hv => hv⟩
  · intro i o l' a b w1 hin hsp ho hrd hsz hR hP
    obtain ⟨hun, o', ho', hall⟩ := mem_ready.1 hrd
    have hil : i < l.length := by simpa using (Array.getElem?_eq_some_iff.1 ho).1
    obtain ⟨hg1, hr⟩ := hR
    rcases sp2 i hsp with rfl | rfl
    · rw [hk1] at ho
      cases ho
      have hf : l'.getD i false = false := getD_both hun
      obtain ⟨h4, rfl⟩ : l'.getD k2 false = false ∧ b = a := by
        rcases hr with ⟨h3, -⟩ | ⟨-, h4, h5⟩
        · rw [hf] at h3; cases h3
        · exact ⟨h4, h5⟩
      refine ⟨by unfold Region.wanted; rw [hg1'], ?_⟩
      have ha := hal b w1
      unfold Oper.wp at ha ⊢
      refine upon_map (a := b) (b := b) (fun u w' hu => ?_) (fun dd w' hu => ?_) ha
      · rw [hu.1, hu.2]
        refine ⟨hg1.alloc hg1.size _, .inl ⟨by simp [hsz, hil], w1.heap.size, rfl, hg1.size, ?_⟩⟩
        rw [getD_set_ne false n12, h4, if_neg (by decide)]
        exact (MapKept.heap_alloc w1 _).1
      · exact (no_defer (hd1 ▸ hu.1)).elim
    · rw [hk2] at ho ho'
      cases ho
      cases ho'
      have h3 : l'.getD k1 false = true := by
        have := hall e0 he0 he1.2
        rwa [he1.1] at this
      have hf : l'.getD i false = false := getD_both hun
      obtain ⟨B, rfl, hB1, hB2⟩ : ∃ B, b = a.put (some d) (.pointer (some ⟨B, 0, none⟩)) ∧ w.heap.size ≤ B ∧ w1.heap[B]? = some (.cells zs T) := by
        rcases hr with ⟨-, B, h4, h5, h6⟩ | ⟨h4, -⟩
        · rw [hf, if_neg (by decide)] at h6
          exact ⟨B, h4, h5, h6⟩
        · rw [h3] at h4; cases h4
      refine ⟨by unfold Region.wanted; rw [hg2], ?_⟩
      rw [if_pos rfl] at hP
      have ha := hP B w1 hg1 hB1 hB2
      unfold Oper.wp at ha ⊢
      refine upon_map (fun u w' hu => ?_) (fun dd w' hu => ?_) ha
      · rw [hu.1]
        refine ⟨hu.2.1, .inl ⟨by rw [getD_set_ne false (Ne.symm n12)]; exact h3, B, rfl, hB1, ?_⟩⟩
        rw [if_pos (by simp [hsz, hil])]
        exact hu.2.2
      · rw [hd2] at hu
        exact (no_defer (x := none) (v := undef) hu.1).elim
theorem wpG_sp {Q : Act → Prop} {o : Oper} {rest : List Oper} {i : Nat} {a : Act} (hi : sp i = true) (hp : Pk i a) (h : wpG P ops Rc Pk sp Q rest (i + 1) a) : wpG P ops Rc Pk sp Q (o :: rest) i a := by
  unfold wpG; rw [if_pos hi]; exact ⟨hp, h⟩
theorem wpG_want {Q : Act → Prop} {o : Oper} {rest : List Oper} {i : Nat} {a : Act} (hi : ¬ sp i = true) (hw : Region.wanted o (yielded ops a.tmps) = true) (h : ∃ v, (∀ w, Rc w → gAt P o a w v) ∧ wpG P ops Rc Pk sp Q rest (i + 1) (a.put o.dst v)) : wpG P ops Rc Pk sp Q (o :: rest) i a := by
  unfold wpG; rw [if_neg hi, if_pos hw]; exact h
theorem wpG_nil {Q : Act → Prop} {i : Nat} {a : Act} (h : Q a) : wpG P ops Rc Pk sp Q [] i a := h
end Go.Proofs.YtfobmlgpjhghdaaGreatDoor.Hm
namespace Go.Proofs.YtfobmlgpjhghdaaGreatDoor
set_option linter.unusedVariables false
open Go.ChangeShapes Go.WideShapes Go.ChangeAt Go.RowKit
theorem c_rAdd (ah al bh bl : Nat) (h1 : Wd ah) (h2 : Wd al) (h3 : Wd bh) (h4 : Wd bl) (w : World) :
    Calls Tryz.prog 95 #[.agg #[.int .u64 ah, .int .u64 al], .agg #[.int .u64 bh, .int .u64 bl]] w fun e w' => e = .returned (.tuple #[.agg #[.int .u64 (((val ah al + val bh bl) / 18446744073709551616 % 18446744073709551616 : Nat) : Int), .int .u64 (((val ah al + val bh bl) % 18446744073709551616 : Nat) : Int)], .bool (decide (18446744073709551616 ≤ (val ah al + val bh bl) / 18446744073709551616))]) ∧ Gr w w' := by
  obtain ⟨s0, hs0⟩ : ∃ s, s = (ah + bh) % 18446744073709551616 := ⟨_, rfl⟩
  obtain ⟨sl, hsl⟩ : ∃ s, s = (val ah al + val bh bl) % 18446744073709551616 := ⟨_, rfl⟩
  obtain ⟨sh, hsh⟩ : ∃ s, s = (val ah al + val bh bl) / 18446744073709551616 % 18446744073709551616 := ⟨_, rfl⟩
  have hsl' : sl = (al + bl) % 18446744073709551616 := by rw [hsl]; unfold val; omega
  have w3 : Wd sh := by rw [hsh]; exact wd_mod _
  have w4 : Wd sl := by rw [hsl]; exact wd_mod _
  have hv : val sh sl = (val ah al + val bh bl) % 340282366920938463463374607431768211456 := by rw [hsh, hsl]; generalize val ah al + val bh bl = X; unfold val; omega
  have hA := val_lt h1 h2
  have hB := val_lt h3 h4
  have ho : decide (cmpN (val sh sl) (val ah al) < 0) = decide (18446744073709551616 ≤ (val ah al + val bh bl) / 18446744073709551616) := by
    rw [cmp_lt0, decide_eq_decide, hv]; omega
  rw [← hsl, ← hsh, ← ho]
  refine radd_core ah al bh bl s0 sh sl _ _ (decide (sl < al)) w ?_ ?_ rfl ?_ ?_ rfl (fun w => c_rCompare sh sl ah al w3 w4 h1 h2 w)
  · rw [IntKind.wrap_u64]; unfold Wd at *; omega
  · rw [IntKind.wrap_u64]; unfold Wd at *; omega
  · intro hc
    have hc := of_decide_eq_true hc
    rw [IntKind.wrap_u64]; unfold Wd val at *; omega
  · intro hc
    have hc := of_decide_eq_false hc
    unfold Wd val at *; omega
end Go.Proofs.YtfobmlgpjhghdaaGreatDoor
namespace Go.Proofs.YtfobmlgpjhghdaaGreatDoor
set_option linter.unusedVariables false
open Go.ChangeShapes Go.WideShapes Go.ChangeAt Go.RowKit
def nearB (x y : Int) : Bool := decide (-1073741823 ≤ x) && decide (x ≤ 1073741823) && decide (-1073741823 ≤ y) && decide (y ≤ 1073741823)
theorem nearB_iff {x y : Int} : nearB x y = true ↔ -1073741823 ≤ x ∧ x ≤ 1073741823 ∧ -1073741823 ≤ y ∧ y ≤ 1073741823 := by
  unfold nearB; simp [and_assoc]
theorem c_near (x y : Int) (w : World) :
    Calls Tryz.prog 72 #[.agg #[.int .i64 x, .int .i64 y]] w fun e w' => e = .returned (.bool (nearB x y)) ∧ Gr w w' := by
  by_cases h1 : -1073741823 ≤ x
  · by_cases h2 : x ≤ 1073741823
    · by_cases h3 : -1073741823 ≤ y
      · by_cases h4 : y ≤ 1073741823
        · have e : nearB x y = true := nearB_iff.2 ⟨h1, h2, h3, h4⟩
          rw [e]
          go_enter Tryz.func72, Tryz.ntmps72
          go_wp2
          go_ret
          exact ⟨rfl, by go_grown⟩
        · have e : nearB x y = false := by unfold nearB; simp [h4]
          rw [e]
          go_enter Tryz.func72, Tryz.ntmps72
          go_wp2
          go_ret
          exact ⟨rfl, by go_grown⟩
      · have e : nearB x y = false := by unfold nearB; simp [h3]
        rw [e]
        go_enter Tryz.func72, Tryz.ntmps72
        go_wp2
        go_ret
        exact ⟨rfl, by go_grown⟩
    · have e : nearB x y = false := by unfold nearB; simp [h2]
      rw [e]
      go_enter Tryz.func72, Tryz.ntmps72
      go_wp2
      go_ret
      exact ⟨rfl, by go_grown⟩
  · have e : nearB x y = false := by unfold nearB; simp [h1]
    rw [e]
    go_enter Tryz.func72, Tryz.ntmps72
    go_wp2
    go_ret
    exact ⟨rfl, by go_grown⟩
def allB (X Y : Nat → Int) : Nat → Bool
  | 0 => true
  | n + 1 => allB X Y n && nearB (X n) (Y n)
theorem allB_iff (X Y : Nat → Int) (n : Nat) : allB X Y n = true ↔ ∀ k, k < n → nearB (X k) (Y k) = true := by
  induction n with
  | zero => simp [allB]
  | succ n ih =>
    simp only [allB, Bool.and_eq_true, ih]
    constructor
    · rintro ⟨h1, h2⟩ k hk
      rcases Nat.lt_succ_iff_lt_or_eq.1 hk with h | rfl
      · exact h1 k h
      · exact h2
    · intro h
      exact ⟨fun k hk => h k (by omega), h n (by omega)⟩
theorem c_allNear (n : Nat) (X Y : Nat → Int) (b : Nat) (w : World) (hn : n ≤ 100) (hb : b < w.heap.size)
    (hc : ∀ k, k < n → w.cell? ⟨b, k * 2, none⟩ = some (.int .i64 (X k)) ∧ w.cell? ⟨b, k * 2 + 1, none⟩ = some (.int .i64 (Y k))) :
    Calls Tryz.prog 137 #[.slice (some ⟨b, 0, none⟩) n n] w fun e w' => e = .returned (.bool (allB X Y n)) ∧ Gr w w' := by
  go_enter Tryz.func137, Tryz.ntmps137
  go_wp2_with fail
  go_loopg [7] n (fun k v wr => ∃ i : Nat, i ≤ n ∧ k = n - i ∧ v = .int .i64 i ∧ allB X Y i = true ∧ Gr w wr)
  case atStart => exact ⟨0, by omega, by omega, rfl, rfl, Gr.of_eq rfl⟩
  case round =>
    obtain ⟨i, hi, hk, rfl, hall, hg⟩ := hrel
    by_cases h : i < n
    · have ti : decide ((i : Int) < (n : Int)) = true := decide_eq_true (by omega)
      have ti2 : decide (i < n) = true := decide_eq_true h
      have c0 := cell_gr hg (hc i h).1
      have c1 := cell_gr hg (hc i h).2
      obtain ⟨q, hq⟩ : ∃ q, q = nearB (X i) (Y i) := ⟨_, rfl⟩
      have hN := Lib.hid (c_near (X i) (Y i))
      rw [← hq] at hN
      cases q
      · have e : allB X Y n = false := by
          rw [← Bool.not_eq_true, allB_iff]
          intro H
          rw [H i h] at hq
          cases hq
        have HE := Lib.hid e
        clear hall e hq hc
        go_wp2_with (go_at_call 72; (with_reducible refine (hN.out _).mono ?_); rintro e w' ⟨rfl, hg1⟩)
        go_ret
        exact ⟨by rw [HE.out]; rfl, Gr.trans (Gr.trans hg (by go_grown)) hg1⟩
      · have e : allB X Y (i + 1) = true := by simp only [allB, hall, ← hq]; rfl
        have HE := Lib.hid e
        clear hall e hq hc
        go_wp2_with (go_at_call 72; (with_reducible refine (hN.out _).mono ?_); rintro e w' ⟨rfl, hg1⟩)
        go_roundg (n - (i + 1))
        case measure => omega
        case rel => exact ⟨i + 1, by omega, rfl, by go_num, HE.out, Gr.trans (Gr.trans hg (by go_grown)) hg1⟩
    · have e : i = n := by omega
      subst e
      go_wp2_with fail
      go_ret
      exact ⟨by simp [hall], hg⟩
end Go.Proofs.YtfobmlgpjhghdaaGreatDoor
namespace Go.Proofs.YtfobmlgpjhghdaaGreatDoor
set_option linter.unusedVariables false
open Go.ChangeShapes Go.WideShapes Go.ChangeAt Go.RowKit
theorem mul_near {x y : Int} (hx : -2147483646 ≤ x ∧ x ≤ 2147483646) (hy : -2147483646 ≤ y ∧ y ≤ 2147483646) : -4611686009837453316 ≤ x * y ∧ x * y ≤ 4611686009837453316 := by
  have h1 : x.natAbs * y.natAbs ≤ 2147483646 * 2147483646 := Nat.mul_le_mul (by omega) (by omega)
  have h2 : (x * y).natAbs = x.natAbs * y.natAbs := Int.natAbs_mul x y
  omega
def crossZ (ax ay bx by' cx cy : Int) : Int := if nearB ax ay && nearB bx by' && nearB cx cy then (bx - ax) * (cy - ay) - (by' - ay) * (cx - ax) else 0
theorem c_rPoint (x y : Int) (w : World) :
    Calls Tryz.prog 24 #[.agg #[.int .i64 x, .int .i64 y]] w fun e w' => e = .returned (.bool (nearB x y)) ∧ Gr w w' := by
  by_cases h1 : -1073741823 ≤ x
  · by_cases h2 : x ≤ 1073741823
    · by_cases h3 : -1073741823 ≤ y
      · by_cases h4 : y ≤ 1073741823
        · have e : nearB x y = true := nearB_iff.2 ⟨h1, h2, h3, h4⟩
          rw [e]
          go_enter Tryz.func24, Tryz.ntmps24
          go_wp2
          go_ret
          exact ⟨rfl, by go_grown⟩
        · have e : nearB x y = false := by unfold nearB; simp [h4]
          rw [e]
          go_enter Tryz.func24, Tryz.ntmps24
          go_wp2
          go_ret
          exact ⟨rfl, by go_grown⟩
      · have e : nearB x y = false := by unfold nearB; simp [h3]
        rw [e]
        go_enter Tryz.func24, Tryz.ntmps24
        go_wp2
        go_ret
        exact ⟨rfl, by go_grown⟩
    · have e : nearB x y = false := by unfold nearB; simp [h2]
      rw [e]
      go_enter Tryz.func24, Tryz.ntmps24
      go_wp2
      go_ret
      exact ⟨rfl, by go_grown⟩
  · have e : nearB x y = false := by unfold nearB; simp [h1]
    rw [e]
    go_enter Tryz.func24, Tryz.ntmps24
    go_wp2
    go_ret
    exact ⟨rfl, by go_grown⟩
def cmpZ (a b : Int) : Int := if a < b then -1 else if b < a then 1 else 0
theorem cmpZ_lt {a b : Int} (h : a < b) : cmpZ a b = -1 := if_pos h
theorem cmpZ_gt {a b : Int} (h : b < a) : cmpZ a b = 1 := by unfold cmpZ; rw [if_neg (by omega), if_pos h]
theorem cmpZ_eq (a : Int) : cmpZ a a = 0 := by unfold cmpZ; simp
theorem c_cmpInt (a b : Int) (w : World) :
    Calls Tryz.prog 144 #[.int .i64 a, .int .i64 b] w fun e w' => e = .returned (.int .i64 (cmpZ a b)) ∧ Gr w w' := by
  rcases Int.lt_trichotomy a b with h | h | h
  · rw [cmpZ_lt h]
    have h2 : ¬ b < a := by omega
    go_enter Tryz.func144, Tryz.ntmps144
    go_wp2
    go_ret
    exact ⟨rfl, by go_grown⟩
  · subst h
    rw [cmpZ_eq]
    go_enter Tryz.func144, Tryz.ntmps144
    go_wp2
    go_ret
    exact ⟨rfl, by go_grown⟩
  · rw [cmpZ_gt h]
    have h2 : ¬ a < b := by omega
    go_enter Tryz.func144, Tryz.ntmps144
    go_wp2
    go_ret
    exact ⟨rfl, by go_grown⟩
theorem c_allNear2 (ax ay bx by' : Int) (b : Nat) (w : World) (hb : b < w.heap.size)
    (k0 : w.cell? ⟨b, 0, none⟩ = some (.int .i64 ax)) (k1 : w.cell? ⟨b, 1, none⟩ = some (.int .i64 ay)) (k2 : w.cell? ⟨b, 2, none⟩ = some (.int .i64 bx)) (k3 : w.cell? ⟨b, 3, none⟩ = some (.int .i64 by')) :
    Calls Tryz.prog 137 #[.slice (some ⟨b, 0, none⟩) 2 2] w fun e w' => e = .returned (.bool (nearB ax ay && nearB bx by')) ∧ Gr w w' := by
  have h := c_allNear 2 (fun k => [ax, bx].getD k 0) (fun k => [ay, by'].getD k 0) b w (by omega) hb (fun k hk => by
    rcases (by omega : k = 0 ∨ k = 1) with rfl | rfl
    · exact ⟨k0, k1⟩
    · exact ⟨k2, k3⟩)
  have e : allB (fun k => [ax, bx].getD k 0) (fun k => [ay, by'].getD k 0) 2 = (nearB ax ay && nearB bx by') := by simp [allB]
  rw [e] at h
  exact h
theorem c_allNear3 (ax ay bx by' cx cy : Int) (b : Nat) (w : World) (hb : b < w.heap.size)
    (k0 : w.cell? ⟨b, 0, none⟩ = some (.int .i64 ax)) (k1 : w.cell? ⟨b, 1, none⟩ = some (.int .i64 ay)) (k2 : w.cell? ⟨b, 2, none⟩ = some (.int .i64 bx)) (k3 : w.cell? ⟨b, 3, none⟩ = some (.int .i64 by'))
    (k4 : w.cell? ⟨b, 4, none⟩ = some (.int .i64 cx)) (k5 : w.cell? ⟨b, 5, none⟩ = some (.int .i64 cy)) :
    Calls Tryz.prog 137 #[.slice (some ⟨b, 0, none⟩) 3 3] w fun e w' => e = .returned (.bool (nearB ax ay && nearB bx by' && nearB cx cy)) ∧ Gr w w' := by
  have h := c_allNear 3 (fun k => [ax, bx, cx].getD k 0) (fun k => [ay, by', cy].getD k 0) b w (by omega) hb (fun k hk => by
    rcases (by omega : k = 0 ∨ k = 1 ∨ k = 2) with rfl | rfl | rfl
    · exact ⟨k0, k1⟩
    · exact ⟨k2, k3⟩
    · exact ⟨k4, k5⟩)
  have e : allB (fun k => [ax, bx, cx].getD k 0) (fun k => [ay, by', cy].getD k 0) 3 = (nearB ax ay && nearB bx by' && nearB cx cy) := by simp [allB]
  rw [e] at h
  exact h
set_option maxRecDepth 100000 in
theorem c_Cross (ax ay bx by' cx cy : Int) (W : World) :
    Calls Tryz.prog 119 #[.agg #[.int .i64 ax, .int .i64 ay], .agg #[.int .i64 bx, .int .i64 by'], .agg #[.int .i64 cx, .int .i64 cy]] W fun e w' => e = .returned (.int .i64 (crossZ ax ay bx by' cx cy)) ∧ Gr W w' := by
  obtain ⟨q, hq⟩ : ∃ q, q = (nearB ax ay && nearB bx by' && nearB cx cy) := ⟨_, rfl⟩
  have HA : ∀ b w, b < w.heap.size → w.cell? ⟨b, 0, none⟩ = some (.int .i64 ax) → w.cell? ⟨b, 1, none⟩ = some (.int .i64 ay) → w.cell? ⟨b, 2, none⟩ = some (.int .i64 bx) → w.cell? ⟨b, 3, none⟩ = some (.int .i64 by') → w.cell? ⟨b, 4, none⟩ = some (.int .i64 cx) → w.cell? ⟨b, 5, none⟩ = some (.int .i64 cy) →
      Calls Tryz.prog 137 #[.slice (some ⟨b, 0, none⟩) 3 3] w fun e w' => e = .returned (.bool q) ∧ Gr w w' := fun b w hb k0 k1 k2 k3 k4 k5 => by
    rw [hq]
    exact c_allNear3 ax ay bx by' cx cy b w hb k0 k1 k2 k3 k4 k5
  have H := Lib.hid HA
  clear HA
  unfold crossZ
  rw [← hq]
  cases q
  · clear hq
    go_enter Tryz.func119, Tryz.ntmps119
    go_wp2_with fail
    go_at_call 137
    refine ((H.out _ _ (by go_simp) (by go_simp) (by go_simp) (by go_simp) (by go_simp) (by go_simp) (by go_simp))).mono ?_
    rintro e w1 ⟨rfl, hw1⟩
    have cw1_0_0 := ci hw1 (W.heap.size) 0 ax (by go_simp)
    have cw1_0_1 := ci hw1 (W.heap.size) 1 ay (by go_simp)
    have cw1_1_0 := ci hw1 (W.heap.size + 1) 0 bx (by go_simp)
    have cw1_1_1 := ci hw1 (W.heap.size + 1) 1 by' (by go_simp)
    have cw1_2_0 := ci hw1 (W.heap.size + 1 + 1) 0 cx (by go_simp)
    have cw1_2_1 := ci hw1 (W.heap.size + 1 + 1) 1 cy (by go_simp)
    have gw1 : Gr W w1 := Gr.trans (by go_grown) hw1
    clear hw1
    go_wp2_with fail
    go_ret
    exact ⟨rfl, by go_grown⟩
  · have hq' : (nearB ax ay = true ∧ nearB bx by' = true) ∧ nearB cx cy = true := by simpa using hq.symm
    have n1 := nearB_iff.1 hq'.1.1
    have n2 := nearB_iff.1 hq'.1.2
    have n3 := nearB_iff.1 hq'.2
    have m1 := mul_near (x := bx - ax) (y := cy - ay) (by omega) (by omega)
    have m2 := mul_near (x := by' - ay) (y := cx - ax) (by omega) (by omega)
    obtain ⟨p1, hp1⟩ : ∃ p, p = (bx - ax) * (cy - ay) := ⟨_, rfl⟩
    obtain ⟨p2, hp2⟩ : ∃ p, p = (by' - ay) * (cx - ax) := ⟨_, rfl⟩
    rw [← hp1] at m1
    rw [← hp2] at m2
    have e1 : wrap64 (bx - ax) = bx - ax := IntWalk.wrap64_in _ (by omega)
    have e2 : wrap64 (cy - ay) = cy - ay := IntWalk.wrap64_in _ (by omega)
    have e3 : wrap64 (by' - ay) = by' - ay := IntWalk.wrap64_in _ (by omega)
    have e4 : wrap64 (cx - ax) = cx - ax := IntWalk.wrap64_in _ (by omega)
    have e5 : wrap64 ((bx - ax) * (cy - ay)) = p1 := by rw [← hp1]; exact IntWalk.wrap64_in _ (by omega)
    have e6 : wrap64 ((by' - ay) * (cx - ax)) = p2 := by rw [← hp2]; exact IntWalk.wrap64_in _ (by omega)
    have e7 : wrap64 (p1 - p2) = p1 - p2 := IntWalk.wrap64_in _ (by omega)
    have f1 : IntKind.i64.wrap (bx - ax) = bx - ax := IntWalk.i64_in _ (by omega)
    have f2 : IntKind.i64.wrap (cy - ay) = cy - ay := IntWalk.i64_in _ (by omega)
    have f3 : IntKind.i64.wrap (by' - ay) = by' - ay := IntWalk.i64_in _ (by omega)
    have f4 : IntKind.i64.wrap (cx - ax) = cx - ax := IntWalk.i64_in _ (by omega)
    have f5 : IntKind.i64.wrap ((bx - ax) * (cy - ay)) = p1 := by rw [← hp1]; exact IntWalk.i64_in _ (by omega)
    have f6 : IntKind.i64.wrap ((by' - ay) * (cx - ax)) = p2 := by rw [← hp2]; exact IntWalk.i64_in _ (by omega)
    have f7 : IntKind.i64.wrap (p1 - p2) = p1 - p2 := IntWalk.i64_in _ (by omega)
    rw [← hp1, ← hp2]
    clear hq hq' n1 n2 n3 m1 m2 hp1 hp2
    go_enter Tryz.func119, Tryz.ntmps119
    go_wp2_with fail
    go_at_call 137
    refine ((H.out _ _ (by go_simp) (by go_simp) (by go_simp) (by go_simp) (by go_simp) (by go_simp) (by go_simp))).mono ?_
    rintro e w1 ⟨rfl, hw1⟩
    have cw1_0_0 := ci hw1 (W.heap.size) 0 ax (by go_simp)
    have cw1_0_1 := ci hw1 (W.heap.size) 1 ay (by go_simp)
    have cw1_1_0 := ci hw1 (W.heap.size + 1) 0 bx (by go_simp)
    have cw1_1_1 := ci hw1 (W.heap.size + 1) 1 by' (by go_simp)
    have cw1_2_0 := ci hw1 (W.heap.size + 1 + 1) 0 cx (by go_simp)
    have cw1_2_1 := ci hw1 (W.heap.size + 1 + 1) 1 cy (by go_simp)
    have gw1 : Gr W w1 := Gr.trans (by go_grown) hw1
    clear hw1
    go_wp2_with fail
    go_ret
    exact ⟨rfl, by go_grown⟩
end Go.Proofs.YtfobmlgpjhghdaaGreatDoor
namespace Go.Proofs.YtfobmlgpjhghdaaGreatDoor
set_option linter.unusedVariables false
open Go.ChangeShapes Go.WideShapes Go.ChangeAt Go.RowKit
def boxB (lx ly hx hy : Int) : Bool := nearB lx ly && nearB hx hy && decide (lx ≤ hx) && decide (ly ≤ hy)
theorem sq_nonneg (x : Int) : 0 ≤ x * x := by
  rcases Int.le_total 0 x with h | h
  · exact Int.mul_nonneg h h
  · exact Int.mul_nonneg_of_nonpos_of_nonpos h h
def boxErr (lx ly hx hy : Int) : Value := if nearB lx ly && nearB hx hy then (if decide (lx ≤ hx) && decide (ly ≤ hy) then .nilIface else .iface 66 (.int .i64 1)) else .iface 66 (.int .i64 2)
theorem c_Orient (ax ay bx by' cx cy : Int) (w : World) :
    Calls Tryz.prog 135 #[.agg #[.int .i64 ax, .int .i64 ay], .agg #[.int .i64 bx, .int .i64 by'], .agg #[.int .i64 cx, .int .i64 cy]] w fun e w' => e = .returned (.int .i64 (cmpZ (crossZ ax ay bx by' cx cy) 0)) ∧ Gr w w' := by
  go_enter Tryz.func135, Tryz.ntmps135
  go_wp2_with (first | (go_at_call 119; (with_reducible refine (c_Cross ax ay bx by' cx cy _).mono ?_); rintro e w' ⟨rfl, hg⟩) | (go_at_call 144; (with_reducible refine (c_cmpInt _ _ _).mono ?_); rintro e w'' ⟨rfl, hg2⟩))
  go_ret
  exact ⟨rfl, Gr.trans (Gr.trans (by go_grown) hg) hg2⟩
theorem c_squares (x y : Int) (hx : -2147483646 ≤ x ∧ x ≤ 2147483646) (hy : -2147483646 ≤ y ∧ y ≤ 2147483646) (w : World) :
    Calls Tryz.prog 108 #[.int .i64 x, .int .i64 y] w fun e w' => e = .returned (.agg #[.int .u64 0, .int .u64 (x * x + y * y), .int .u64 1]) ∧ Gr w w' := by
  have m1 := mul_near hx hx
  have m2 := mul_near hy hy
  obtain ⟨p1, hp1⟩ : ∃ p, p = x * x := ⟨_, rfl⟩
  obtain ⟨p2, hp2⟩ : ∃ p, p = y * y := ⟨_, rfl⟩
  have q1 : 0 ≤ p1 := by rw [hp1]; exact sq_nonneg x
  have q2 : 0 ≤ p2 := by rw [hp2]; exact sq_nonneg y
  rw [← hp1] at m1
  rw [← hp2] at m2
  have e1 : wrap64 (x * x) = p1 := by rw [← hp1]; exact IntWalk.wrap64_in _ (by omega)
  have e2 : wrap64 (y * y) = p2 := by rw [← hp2]; exact IntWalk.wrap64_in _ (by omega)
  have e3 : wrap64 (p1 + p2) = p1 + p2 := IntWalk.wrap64_in _ (by omega)
  have f1 : IntKind.i64.wrap (x * x) = p1 := by rw [← hp1]; exact IntWalk.i64_in _ (by omega)
  have f2 : IntKind.i64.wrap (y * y) = p2 := by rw [← hp2]; exact IntWalk.i64_in _ (by omega)
  have f3 : IntKind.i64.wrap (p1 + p2) = p1 + p2 := IntWalk.i64_in _ (by omega)
  have f4 : IntKind.u64.wrap (p1 + p2) = p1 + p2 := IntWalk.u64_in _ (by omega)
  rw [← hp1, ← hp2]
  clear hp1 hp2 m1 m2 q1 q2 hx hy
  go_enter Tryz.func108, Tryz.ntmps108
  go_wp2
  refine bodyPost_ret (v := .agg #[.int .u64 0, .int .u64 (p1 + p2), .int .u64 1]) (by simp [results, Tryz.results108, go_sem, *]) rfl ⟨rfl, by go_grown⟩
theorem c_CheckBox (lx ly hx hy : Int) (W : World) :
    Calls Tryz.prog 96 #[.agg #[.int .i64 lx, .int .i64 ly, .int .i64 hx, .int .i64 hy]] W fun e w' => e = .returned (boxErr lx ly hx hy) ∧ Gr W w' := by
  have H1 := Lib.hid (c_near lx ly)
  have H2 := Lib.hid (c_near hx hy)
  obtain ⟨q, hq⟩ : ∃ q, q = nearB lx ly := ⟨_, rfl⟩
  obtain ⟨r, hr⟩ : ∃ r, r = nearB hx hy := ⟨_, rfl⟩
  unfold boxErr
  rw [← hq] at H1 ⊢
  rw [← hr] at H2 ⊢
  have T1 : decide (lx ≤ hx) = !decide (hx < lx) := by by_cases h : hx < lx <;> simp [h] <;> omega
  have T2 : decide (ly ≤ hy) = !decide (hy < ly) := by by_cases h : hy < ly <;> simp [h] <;> omega
  rw [T1, T2]
  clear T1 T2 hq hr
  cases q
  · simp only [Bool.false_and, Bool.false_eq_true, if_false]
    go_enter Tryz.func96, Tryz.ntmps96
    go_wp2_with fail
    go_at_call 72
    refine ((H1.out _)).mono ?_
    rintro e w1 ⟨rfl, hw1⟩
    have cw1_0_0 := ci hw1 (W.heap.size) 0 lx (by go_simp)
    have cw1_0_1 := ci hw1 (W.heap.size) 1 ly (by go_simp)
    have cw1_0_2 := ci hw1 (W.heap.size) 2 hx (by go_simp)
    have cw1_0_3 := ci hw1 (W.heap.size) 3 hy (by go_simp)
    have gw1 : Gr W w1 := Gr.trans (by go_grown) hw1
    clear hw1
    go_wp2_with fail
    go_ret
    exact ⟨rfl, by go_grown⟩
  · cases r
    · simp only [Bool.and_false, Bool.false_eq_true, if_false]
      go_enter Tryz.func96, Tryz.ntmps96
      go_wp2_with fail
      go_at_call 72
      refine ((H1.out _)).mono ?_
      rintro e w1 ⟨rfl, hw1⟩
      have cw1_0_0 := ci hw1 (W.heap.size) 0 lx (by go_simp)
      have cw1_0_1 := ci hw1 (W.heap.size) 1 ly (by go_simp)
      have cw1_0_2 := ci hw1 (W.heap.size) 2 hx (by go_simp)
      have cw1_0_3 := ci hw1 (W.heap.size) 3 hy (by go_simp)
      have gw1 : Gr W w1 := Gr.trans (by go_grown) hw1
      clear hw1
      go_wp2_with fail
      go_at_call 72
      refine ((H2.out _)).mono ?_
      rintro e w2 ⟨rfl, hw2⟩
      have cw2_0_0 := ci hw2 (W.heap.size) 0 lx (by go_simp)
      have cw2_0_1 := ci hw2 (W.heap.size) 1 ly (by go_simp)
      have cw2_0_2 := ci hw2 (W.heap.size) 2 hx (by go_simp)
      have cw2_0_3 := ci hw2 (W.heap.size) 3 hy (by go_simp)
      have gw2 : Gr W w2 := Gr.trans (by have gg := gw1; have gs := gg.size; go_grown) hw2
      clear hw2 gw1 cw1_0_0 cw1_0_1 cw1_0_2 cw1_0_3
      go_wp2_with fail
      go_ret
      exact ⟨rfl, by go_grown⟩
    · simp only [Bool.and_true, if_true]
      by_cases a1 : hx < lx
      · simp only [a1, decide_true, Bool.not_true, Bool.false_and, Bool.false_eq_true, if_false]
        have b1 : ¬ lx ≤ hx := by omega
        go_enter Tryz.func96, Tryz.ntmps96
        go_wp2_with fail
        go_at_call 72
        refine ((H1.out _)).mono ?_
        rintro e w1 ⟨rfl, hw1⟩
        have cw1_0_0 := ci hw1 (W.heap.size) 0 lx (by go_simp)
        have cw1_0_1 := ci hw1 (W.heap.size) 1 ly (by go_simp)
        have cw1_0_2 := ci hw1 (W.heap.size) 2 hx (by go_simp)
        have cw1_0_3 := ci hw1 (W.heap.size) 3 hy (by go_simp)
        have gw1 : Gr W w1 := Gr.trans (by go_grown) hw1
        clear hw1
        go_wp2_with fail
        go_at_call 72
        refine ((H2.out _)).mono ?_
        rintro e w2 ⟨rfl, hw2⟩
        have cw2_0_0 := ci hw2 (W.heap.size) 0 lx (by go_simp)
        have cw2_0_1 := ci hw2 (W.heap.size) 1 ly (by go_simp)
        have cw2_0_2 := ci hw2 (W.heap.size) 2 hx (by go_simp)
        have cw2_0_3 := ci hw2 (W.heap.size) 3 hy (by go_simp)
        have gw2 : Gr W w2 := Gr.trans (by have gg := gw1; have gs := gg.size; go_grown) hw2
        clear hw2 gw1 cw1_0_0 cw1_0_1 cw1_0_2 cw1_0_3
        go_wp2_with fail
        go_ret
        exact ⟨rfl, by go_grown⟩
      · by_cases a2 : hy < ly
        · simp only [a1, a2, decide_true, decide_false, Bool.not_true, Bool.not_false, Bool.true_and, Bool.false_eq_true, if_false]
          go_enter Tryz.func96, Tryz.ntmps96
          go_wp2_with fail
          go_at_call 72
          refine ((H1.out _)).mono ?_
          rintro e w1 ⟨rfl, hw1⟩
          have cw1_0_0 := ci hw1 (W.heap.size) 0 lx (by go_simp)
          have cw1_0_1 := ci hw1 (W.heap.size) 1 ly (by go_simp)
          have cw1_0_2 := ci hw1 (W.heap.size) 2 hx (by go_simp)
          have cw1_0_3 := ci hw1 (W.heap.size) 3 hy (by go_simp)
          have gw1 : Gr W w1 := Gr.trans (by go_grown) hw1
          clear hw1
          go_wp2_with fail
          go_at_call 72
          refine ((H2.out _)).mono ?_
          rintro e w2 ⟨rfl, hw2⟩
          have cw2_0_0 := ci hw2 (W.heap.size) 0 lx (by go_simp)
          have cw2_0_1 := ci hw2 (W.heap.size) 1 ly (by go_simp)
          have cw2_0_2 := ci hw2 (W.heap.size) 2 hx (by go_simp)
          have cw2_0_3 := ci hw2 (W.heap.size) 3 hy (by go_simp)
          have gw2 : Gr W w2 := Gr.trans (by have gg := gw1; have gs := gg.size; go_grown) hw2
          clear hw2 gw1 cw1_0_0 cw1_0_1 cw1_0_2 cw1_0_3
          go_wp2_with fail
          go_ret
          exact ⟨rfl, by go_grown⟩
        · simp only [a1, a2, decide_false, Bool.not_false, Bool.and_self, if_true]
          go_enter Tryz.func96, Tryz.ntmps96
          go_wp2_with fail
          go_at_call 72
          refine ((H1.out _)).mono ?_
          rintro e w1 ⟨rfl, hw1⟩
          have cw1_0_0 := ci hw1 (W.heap.size) 0 lx (by go_simp)
          have cw1_0_1 := ci hw1 (W.heap.size) 1 ly (by go_simp)
          have cw1_0_2 := ci hw1 (W.heap.size) 2 hx (by go_simp)
          have cw1_0_3 := ci hw1 (W.heap.size) 3 hy (by go_simp)
          have gw1 : Gr W w1 := Gr.trans (by go_grown) hw1
          clear hw1
          go_wp2_with fail
          go_at_call 72
          refine ((H2.out _)).mono ?_
          rintro e w2 ⟨rfl, hw2⟩
          have cw2_0_0 := ci hw2 (W.heap.size) 0 lx (by go_simp)
          have cw2_0_1 := ci hw2 (W.heap.size) 1 ly (by go_simp)
          have cw2_0_2 := ci hw2 (W.heap.size) 2 hx (by go_simp)
          have cw2_0_3 := ci hw2 (W.heap.size) 3 hy (by go_simp)
          have gw2 : Gr W w2 := Gr.trans (by have gg := gw1; have gs := gg.size; go_grown) hw2
          clear hw2 gw1 cw1_0_0 cw1_0_1 cw1_0_2 cw1_0_3
          go_wp2_with fail
          go_ret
          exact ⟨rfl, by go_grown⟩
end Go.Proofs.YtfobmlgpjhghdaaGreatDoor
namespace Go.Proofs.YtfobmlgpjhghdaaGreatDoor
set_option linter.unusedVariables false
open Go.ChangeShapes Go.WideShapes Go.ChangeAt Go.RowKit
theorem boxErr_true {lx ly hx hy : Int} (h : boxB lx ly hx hy = true) : boxErr lx ly hx hy = .nilIface := by
  unfold boxB at h
  unfold boxErr
  rw [Bool.and_eq_true, Bool.and_eq_true] at h
  rw [if_pos h.1.1, if_pos]
  rw [h.1.2, h.2]; rfl
theorem boxErr_false {lx ly hx hy : Int} (h : boxB lx ly hx hy = false) : ∃ k : Int, boxErr lx ly hx hy = .iface 66 (.int .i64 k) := by
  unfold boxB at h
  unfold boxErr
  by_cases h1 : (nearB lx ly && nearB hx hy) = true
  · rw [if_pos h1]
    by_cases h2 : (decide (lx ≤ hx) && decide (ly ≤ hy)) = true
    · rw [h1, Bool.true_and, h2] at h
      cases h
    · rw [if_neg h2]
      exact ⟨_, rfl⟩
  · rw [if_neg h1]
    exact ⟨_, rfl⟩
def allBox (A B C D : Nat → Int) : Nat → Bool
  | 0 => true
  | n + 1 => allBox A B C D n && boxB (A n) (B n) (C n) (D n)
theorem allBox_iff (A B C D : Nat → Int) (n : Nat) : allBox A B C D n = true ↔ ∀ k, k < n → boxB (A k) (B k) (C k) (D k) = true := by
  induction n with
  | zero => simp [allBox]
  | succ n ih =>
    simp only [allBox, Bool.and_eq_true, ih]
    constructor
    · rintro ⟨h1, h2⟩ k hk
      rcases Nat.lt_succ_iff_lt_or_eq.1 hk with h | rfl
      · exact h1 k h
      · exact h2
    · intro h
      exact ⟨fun k hk => h k (by omega), h n (by omega)⟩
theorem c_mayBe (n : Nat) (A B C D : Nat → Int) (b : Nat) (w : World) (hn : n ≤ 100) (hb : b < w.heap.size)
    (hc : ∀ k, k < n → w.cell? ⟨b, k * 4, none⟩ = some (.int .i64 (A k)) ∧ w.cell? ⟨b, k * 4 + 1, none⟩ = some (.int .i64 (B k)) ∧ w.cell? ⟨b, k * 4 + 2, none⟩ = some (.int .i64 (C k)) ∧ w.cell? ⟨b, k * 4 + 3, none⟩ = some (.int .i64 (D k))) :
    Calls Tryz.prog 102 #[.slice (some ⟨b, 0, none⟩) n n] w fun e w' => e = .returned (.bool (allBox A B C D n)) ∧ Gr w w' := by
  go_enter Tryz.func102, Tryz.ntmps102
  go_wp2_with fail
  go_loopg [7] n (fun k v wr => ∃ i : Nat, i ≤ n ∧ k = n - i ∧ v = .int .i64 i ∧ allBox A B C D i = true ∧ Gr w wr)
  case atStart => exact ⟨0, by omega, by omega, rfl, rfl, Gr.of_eq rfl⟩
  case round =>
    obtain ⟨i, hi, hk, rfl, hall, hg⟩ := hrel
    by_cases h : i < n
    · have ti : decide ((i : Int) < (n : Int)) = true := decide_eq_true (by omega)
      have ti2 : decide (i < n) = true := decide_eq_true h
      have c0 := cell_gr hg (hc i h).1
      have c1 := cell_gr hg (hc i h).2.1
      have c2 := cell_gr hg (hc i h).2.2.1
      have c3 := cell_gr hg (hc i h).2.2.2
      obtain ⟨q, hq⟩ : ∃ q, q = boxB (A i) (B i) (C i) (D i) := ⟨_, rfl⟩
      have hC := c_CheckBox (A i) (B i) (C i) (D i)
      cases q
      · have e : allBox A B C D n = false := by
          rw [← Bool.not_eq_true, allBox_iff]
          intro H
          rw [H i h] at hq
          cases hq
        have HE := Lib.hid e
        obtain ⟨z, hz⟩ := boxErr_false hq.symm
        rw [hz] at hC
        have hN := Lib.hid hC
        clear hall e hq hc hC hz
        go_wp2_with (go_at_call 96; (with_reducible refine (hN.out _).mono ?_); rintro e w' ⟨rfl, hg1⟩)
        go_ret
        exact ⟨by rw [HE.out]; rfl, Gr.trans (Gr.trans hg (by go_grown)) hg1⟩
      · have e : allBox A B C D (i + 1) = true := by simp only [allBox, hall, ← hq]; rfl
        have HE := Lib.hid e
        rw [boxErr_true hq.symm] at hC
        have hN := Lib.hid hC
        clear hall e hq hc hC
        go_wp2_with (go_at_call 96; (with_reducible refine (hN.out _).mono ?_); rintro e w' ⟨rfl, hg1⟩)
        go_roundg (n - (i + 1))
        case measure => omega
        case rel => exact ⟨i + 1, by omega, rfl, by go_num, HE.out, Gr.trans (Gr.trans hg (by go_grown)) hg1⟩
    · have e : i = n := by omega
      subst e
      go_wp2_with fail
      go_ret
      exact ⟨by simp [hall], hg⟩
theorem c_mayBe1 (lx ly hx hy : Int) (b : Nat) (w : World) (hb : b < w.heap.size)
    (k0 : w.cell? ⟨b, 0, none⟩ = some (.int .i64 lx)) (k1 : w.cell? ⟨b, 1, none⟩ = some (.int .i64 ly)) (k2 : w.cell? ⟨b, 2, none⟩ = some (.int .i64 hx)) (k3 : w.cell? ⟨b, 3, none⟩ = some (.int .i64 hy)) :
    Calls Tryz.prog 102 #[.slice (some ⟨b, 0, none⟩) 1 1] w fun e w' => e = .returned (.bool (boxB lx ly hx hy)) ∧ Gr w w' := by
  have h := c_mayBe 1 (fun _ => lx) (fun _ => ly) (fun _ => hx) (fun _ => hy) b w (by omega) hb (fun k hk => by
    obtain rfl : k = 0 := by omega
    exact ⟨k0, k1, k2, k3⟩)
  have e : allBox (fun _ => lx) (fun _ => ly) (fun _ => hx) (fun _ => hy) 1 = boxB lx ly hx hy := by simp [allBox]
  rw [e] at h
  exact h
theorem c_mayBe2 (lx ly hx hy mx my nx ny : Int) (b : Nat) (w : World) (hb : b < w.heap.size)
    (k0 : w.cell? ⟨b, 0, none⟩ = some (.int .i64 lx)) (k1 : w.cell? ⟨b, 1, none⟩ = some (.int .i64 ly)) (k2 : w.cell? ⟨b, 2, none⟩ = some (.int .i64 hx)) (k3 : w.cell? ⟨b, 3, none⟩ = some (.int .i64 hy))
    (k4 : w.cell? ⟨b, 4, none⟩ = some (.int .i64 mx)) (k5 : w.cell? ⟨b, 5, none⟩ = some (.int .i64 my)) (k6 : w.cell? ⟨b, 6, none⟩ = some (.int .i64 nx)) (k7 : w.cell? ⟨b, 7, none⟩ = some (.int .i64 ny)) :
    Calls Tryz.prog 102 #[.slice (some ⟨b, 0, none⟩) 2 2] w fun e w' => e = .returned (.bool (boxB lx ly hx hy && boxB mx my nx ny)) ∧ Gr w w' := by
  have h := c_mayBe 2 (fun k => [lx, mx].getD k 0) (fun k => [ly, my].getD k 0) (fun k => [hx, nx].getD k 0) (fun k => [hy, ny].getD k 0) b w (by omega) hb (fun k hk => by
    rcases (by omega : k = 0 ∨ k = 1) with rfl | rfl
    · exact ⟨k0, k1, k2, k3⟩
    · exact ⟨k4, k5, k6, k7⟩)
  have e : allBox (fun k => [lx, mx].getD k 0) (fun k => [ly, my].getD k 0) (fun k => [hx, nx].getD k 0) (fun k => [hy, ny].getD k 0) 2 = (boxB lx ly hx hy && boxB mx my nx ny) := by simp [allBox]
  rw [e] at h
  exact h
def inB (lx ly hx hy px py : Int) : Bool := decide (lx ≤ px) && decide (px ≤ hx) && decide (ly ≤ py) && decide (py ≤ hy)
theorem c_holds (lx ly hx hy px py : Int) (w : World) :
    Calls Tryz.prog 103 #[.agg #[.int .i64 lx, .int .i64 ly, .int .i64 hx, .int .i64 hy], .agg #[.int .i64 px, .int .i64 py]] w fun e w' => e = .returned (.bool (inB lx ly hx hy px py)) ∧ Gr w w' := by
  obtain ⟨q, hq⟩ : ∃ q, q = inB lx ly hx hy px py := ⟨_, rfl⟩
  rw [← hq]
  unfold inB at hq
  by_cases h1 : lx ≤ px
  · by_cases h2 : px ≤ hx
    · by_cases h3 : ly ≤ py
      · by_cases h4 : py ≤ hy
        · obtain rfl : q = true := by rw [hq]; simp [h1, h2, h3, h4]
          clear hq
          go_enter Tryz.func103, Tryz.ntmps103
          go_wp2
          go_ret
          exact ⟨rfl, by go_grown⟩
        · obtain rfl : q = false := by rw [hq]; simp [h4]
          clear hq
          go_enter Tryz.func103, Tryz.ntmps103
          go_wp2
          go_ret
          exact ⟨rfl, by go_grown⟩
      · obtain rfl : q = false := by rw [hq]; simp [h3]
        clear hq
        go_enter Tryz.func103, Tryz.ntmps103
        go_wp2
        go_ret
        exact ⟨rfl, by go_grown⟩
    · obtain rfl : q = false := by rw [hq]; simp [h2]
      clear hq
      go_enter Tryz.func103, Tryz.ntmps103
      go_wp2
      go_ret
      exact ⟨rfl, by go_grown⟩
  · obtain rfl : q = false := by rw [hq]; simp [h1]
    clear hq
    go_enter Tryz.func103, Tryz.ntmps103
    go_wp2
    go_ret
    exact ⟨rfl, by go_grown⟩
set_option maxHeartbeats 1000000 in
theorem c_Has (lx ly hx hy px py : Int) (W : World) :
    Calls Tryz.prog 126 #[.agg #[.int .i64 lx, .int .i64 ly, .int .i64 hx, .int .i64 hy], .agg #[.int .i64 px, .int .i64 py]] W fun e w' => e = .returned (.bool (boxB lx ly hx hy && nearB px py && inB lx ly hx hy px py)) ∧ Gr W w' := by
  obtain ⟨q1, e1⟩ : ∃ q, q = boxB lx ly hx hy := ⟨_, rfl⟩
  obtain ⟨q2, e2⟩ : ∃ q, q = nearB px py := ⟨_, rfl⟩
  obtain ⟨q3, e3⟩ : ∃ q, q = inB lx ly hx hy px py := ⟨_, rfl⟩
  have M : ∀ b w, b < w.heap.size → w.cell? ⟨b, 0, none⟩ = some (.int .i64 lx) → w.cell? ⟨b, 1, none⟩ = some (.int .i64 ly) → w.cell? ⟨b, 2, none⟩ = some (.int .i64 hx) → w.cell? ⟨b, 3, none⟩ = some (.int .i64 hy) →
      Calls Tryz.prog 102 #[.slice (some ⟨b, 0, none⟩) 1 1] w fun e w' => e = .returned (.bool q1) ∧ Gr w w' := fun b w hb k0 k1 k2 k3 => by
    rw [e1]; exact c_mayBe1 lx ly hx hy b w hb k0 k1 k2 k3
  have N := c_near px py
  have O := c_holds lx ly hx hy px py
  rw [← e1, ← e2, ← e3]
  rw [← e2] at N
  rw [← e3] at O
  have H1 := Lib.hid M
  have H2 := Lib.hid N
  have H3 := Lib.hid O
  clear M N O e1 e2 e3
  have hc : q1 = false ∨ (q1 = true ∧ q2 = false) ∨ (q1 = true ∧ q2 = true) := by cases q1 <;> cases q2 <;> simp
  rcases hc with rfl | ⟨rfl, rfl⟩ | ⟨rfl, rfl⟩
  · go_enter Tryz.func126, Tryz.ntmps126
    go_wp2_with fail
    go_at_call 102
    refine ((H1.out _ _ (by go_simp) (by go_simp) (by go_simp) (by go_simp) (by go_simp))).mono ?_
    rintro e w1 ⟨rfl, hw1⟩
    have cw1_0_0 := ci hw1 (W.heap.size) 0 lx (by go_simp)
    have cw1_0_1 := ci hw1 (W.heap.size) 1 ly (by go_simp)
    have cw1_0_2 := ci hw1 (W.heap.size) 2 hx (by go_simp)
    have cw1_0_3 := ci hw1 (W.heap.size) 3 hy (by go_simp)
    have cw1_1_0 := ci hw1 (W.heap.size + 1) 0 px (by go_simp)
    have cw1_1_1 := ci hw1 (W.heap.size + 1) 1 py (by go_simp)
    have gw1 : Gr W w1 := Gr.trans (by go_grown) hw1
    clear hw1
    go_wp2_with fail
    go_ret
    exact ⟨rfl, by go_grown⟩
  · go_enter Tryz.func126, Tryz.ntmps126
    go_wp2_with fail
    go_at_call 102
    refine ((H1.out _ _ (by go_simp) (by go_simp) (by go_simp) (by go_simp) (by go_simp))).mono ?_
    rintro e w1 ⟨rfl, hw1⟩
    have cw1_0_0 := ci hw1 (W.heap.size) 0 lx (by go_simp)
    have cw1_0_1 := ci hw1 (W.heap.size) 1 ly (by go_simp)
    have cw1_0_2 := ci hw1 (W.heap.size) 2 hx (by go_simp)
    have cw1_0_3 := ci hw1 (W.heap.size) 3 hy (by go_simp)
    have cw1_1_0 := ci hw1 (W.heap.size + 1) 0 px (by go_simp)
    have cw1_1_1 := ci hw1 (W.heap.size + 1) 1 py (by go_simp)
    have gw1 : Gr W w1 := Gr.trans (by go_grown) hw1
    clear hw1
    go_wp2_with fail
    go_at_call 72
    refine ((H2.out _)).mono ?_
    rintro e w2 ⟨rfl, hw2⟩
    have cw2_0_0 := ci hw2 (W.heap.size) 0 lx (by go_simp)
    have cw2_0_1 := ci hw2 (W.heap.size) 1 ly (by go_simp)
    have cw2_0_2 := ci hw2 (W.heap.size) 2 hx (by go_simp)
    have cw2_0_3 := ci hw2 (W.heap.size) 3 hy (by go_simp)
    have cw2_1_0 := ci hw2 (W.heap.size + 1) 0 px (by go_simp)
    have cw2_1_1 := ci hw2 (W.heap.size + 1) 1 py (by go_simp)
    have gw2 : Gr W w2 := Gr.trans (by have gg := gw1; have gs := gg.size; go_grown) hw2
    clear hw2 gw1 cw1_0_0 cw1_0_1 cw1_0_2 cw1_0_3 cw1_1_0 cw1_1_1
    go_wp2_with fail
    go_ret
    exact ⟨rfl, by go_grown⟩
  · go_enter Tryz.func126, Tryz.ntmps126
    go_wp2_with fail
    go_at_call 102
    refine ((H1.out _ _ (by go_simp) (by go_simp) (by go_simp) (by go_simp) (by go_simp))).mono ?_
    rintro e w1 ⟨rfl, hw1⟩
    have cw1_0_0 := ci hw1 (W.heap.size) 0 lx (by go_simp)
    have cw1_0_1 := ci hw1 (W.heap.size) 1 ly (by go_simp)
    have cw1_0_2 := ci hw1 (W.heap.size) 2 hx (by go_simp)
    have cw1_0_3 := ci hw1 (W.heap.size) 3 hy (by go_simp)
    have cw1_1_0 := ci hw1 (W.heap.size + 1) 0 px (by go_simp)
    have cw1_1_1 := ci hw1 (W.heap.size + 1) 1 py (by go_simp)
    have gw1 : Gr W w1 := Gr.trans (by go_grown) hw1
    clear hw1
    go_wp2_with fail
    go_at_call 72
    refine ((H2.out _)).mono ?_
    rintro e w2 ⟨rfl, hw2⟩
    have cw2_0_0 := ci hw2 (W.heap.size) 0 lx (by go_simp)
    have cw2_0_1 := ci hw2 (W.heap.size) 1 ly (by go_simp)
    have cw2_0_2 := ci hw2 (W.heap.size) 2 hx (by go_simp)
    have cw2_0_3 := ci hw2 (W.heap.size) 3 hy (by go_simp)
    have cw2_1_0 := ci hw2 (W.heap.size + 1) 0 px (by go_simp)
    have cw2_1_1 := ci hw2 (W.heap.size + 1) 1 py (by go_simp)
    have gw2 : Gr W w2 := Gr.trans (by have gg := gw1; have gs := gg.size; go_grown) hw2
    clear hw2 gw1 cw1_0_0 cw1_0_1 cw1_0_2 cw1_0_3 cw1_1_0 cw1_1_1
    go_wp2_with fail
    go_at_call 103
    refine ((H3.out _)).mono ?_
    rintro e w3 ⟨rfl, hw3⟩
    have gw3 : Gr W w3 := Gr.trans (by have gg := gw2; have gs := gg.size; go_grown) hw3
    clear hw3 gw2 cw2_0_0 cw2_0_1 cw2_0_2 cw2_0_3 cw2_1_0 cw2_1_1
    go_wp2_with fail
    go_ret
    exact ⟨rfl, by go_grown⟩
def beyZ (lo hi v : Int) : Int := if v < lo then lo - v else if hi < v then v - hi else 0
theorem c_beyond (lo hi v : Int) (h : lo ≤ hi) (h1 : -1073741823 ≤ lo ∧ lo ≤ 1073741823) (h2 : -1073741823 ≤ hi ∧ hi ≤ 1073741823) (h3 : -1073741823 ≤ v ∧ v ≤ 1073741823) (w : World) :
    Calls Tryz.prog 109 #[.int .i64 lo, .int .i64 hi, .int .i64 v] w fun e w' => e = .returned (.int .i64 (beyZ lo hi v)) ∧ Gr w w' := by
  have e1 : wrap64 (lo - v) = lo - v := IntWalk.wrap64_in _ (by omega)
  have e2 : wrap64 (v - hi) = v - hi := IntWalk.wrap64_in _ (by omega)
  have f1 : IntKind.i64.wrap (lo - v) = lo - v := IntWalk.i64_in _ (by omega)
  have f2 : IntKind.i64.wrap (v - hi) = v - hi := IntWalk.i64_in _ (by omega)
  go_enter Tryz.func109, Tryz.ntmps109
  have M : ∀ w, (Builtin.max_ #[3, 3, 3] 3 #[.int .i64 (lo - v), .int .i64 0, .int .i64 (v - hi)]).run Tryz.prog w = .ok (.int .i64 (beyZ lo hi v)) w := fun w => by
    have e : beyZ lo hi v = (if (v - hi) > (if 0 > lo - v then 0 else lo - v) then v - hi else (if 0 > lo - v then 0 else lo - v)) := by
      unfold beyZ
      split <;> split <;> (try split) <;> omega
    rw [e]
    simp [Builtin.max_, Builtin.max2, go_sem]
  go_wp2_with fail
  go_ret
  exact ⟨rfl, by go_grown⟩
set_option maxHeartbeats 2000000 in
theorem c_Meets (lx ly hx hy mx my nx ny : Int) (W : World) :
    Calls Tryz.prog 87 #[.agg #[.int .i64 lx, .int .i64 ly, .int .i64 hx, .int .i64 hy], .agg #[.int .i64 mx, .int .i64 my, .int .i64 nx, .int .i64 ny]] W fun e w' => e = .returned (.bool (boxB lx ly hx hy && boxB mx my nx ny && decide (lx ≤ nx) && decide (mx ≤ hx) && decide (ly ≤ ny) && decide (my ≤ hy))) ∧ Gr W w' := by
  obtain ⟨q1, e1⟩ : ∃ q, q = (boxB lx ly hx hy && boxB mx my nx ny) := ⟨_, rfl⟩
  have M : ∀ b w, b < w.heap.size → w.cell? ⟨b, 0, none⟩ = some (.int .i64 lx) → w.cell? ⟨b, 1, none⟩ = some (.int .i64 ly) → w.cell? ⟨b, 2, none⟩ = some (.int .i64 hx) → w.cell? ⟨b, 3, none⟩ = some (.int .i64 hy) →
      w.cell? ⟨b, 4, none⟩ = some (.int .i64 mx) → w.cell? ⟨b, 5, none⟩ = some (.int .i64 my) → w.cell? ⟨b, 6, none⟩ = some (.int .i64 nx) → w.cell? ⟨b, 7, none⟩ = some (.int .i64 ny) →
      Calls Tryz.prog 102 #[.slice (some ⟨b, 0, none⟩) 2 2] w fun e w' => e = .returned (.bool q1) ∧ Gr w w' := fun b w hb k0 k1 k2 k3 k4 k5 k6 k7 => by
    rw [e1]; exact c_mayBe2 lx ly hx hy mx my nx ny b w hb k0 k1 k2 k3 k4 k5 k6 k7
  rw [← e1]
  obtain ⟨r, hr⟩ : ∃ r, r = (q1 && decide (lx ≤ nx) && decide (mx ≤ hx) && decide (ly ≤ ny) && decide (my ≤ hy)) := ⟨_, rfl⟩
  rw [← hr]
  have H1 := Lib.hid M
  clear M e1
  have hc : (q1 = false ∧ r = false) ∨ (q1 = true ∧ ¬ lx ≤ nx ∧ r = false) ∨ (q1 = true ∧ lx ≤ nx ∧ ¬ mx ≤ hx ∧ r = false) ∨ (q1 = true ∧ lx ≤ nx ∧ mx ≤ hx ∧ ¬ ly ≤ ny ∧ r = false) ∨ (q1 = true ∧ lx ≤ nx ∧ mx ≤ hx ∧ ly ≤ ny ∧ ¬ my ≤ hy ∧ r = false) ∨ (q1 = true ∧ lx ≤ nx ∧ mx ≤ hx ∧ ly ≤ ny ∧ my ≤ hy ∧ r = true) := by
    cases q1
    · left; exact ⟨rfl, by rw [hr]; rfl⟩
    · right
      by_cases a1 : lx ≤ nx <;> by_cases a2 : mx ≤ hx <;> by_cases a3 : ly ≤ ny <;> by_cases a4 : my ≤ hy <;> simp [hr, a1, a2, a3, a4]
  clear hr
  rcases hc with ⟨rfl, rfl⟩ | ⟨rfl, a1, rfl⟩ | ⟨rfl, a1, a2, rfl⟩ | ⟨rfl, a1, a2, a3, rfl⟩ | ⟨rfl, a1, a2, a3, a4, rfl⟩ | ⟨rfl, a1, a2, a3, a4, rfl⟩
  all_goals
    go_enter Tryz.func87, Tryz.ntmps87
    go_wp2_with fail
    go_at_call 102
    refine ((H1.out _ _ (by go_simp) (by go_simp) (by go_simp) (by go_simp) (by go_simp) (by go_simp) (by go_simp) (by go_simp) (by go_simp))).mono ?_
    rintro e w1 ⟨rfl, hw1⟩
    have cw1_0_0 := ci hw1 (W.heap.size) 0 lx (by go_simp)
    have cw1_0_1 := ci hw1 (W.heap.size) 1 ly (by go_simp)
    have cw1_0_2 := ci hw1 (W.heap.size) 2 hx (by go_simp)
    have cw1_0_3 := ci hw1 (W.heap.size) 3 hy (by go_simp)
    have cw1_1_0 := ci hw1 (W.heap.size + 1) 0 mx (by go_simp)
    have cw1_1_1 := ci hw1 (W.heap.size + 1) 1 my (by go_simp)
    have cw1_1_2 := ci hw1 (W.heap.size + 1) 2 nx (by go_simp)
    have cw1_1_3 := ci hw1 (W.heap.size + 1) 3 ny (by go_simp)
    have gw1 : Gr W w1 := Gr.trans (by go_grown) hw1
    clear hw1
    go_wp2_with fail
    go_ret
    exact ⟨by first | rfl | simp [a4], by go_grown⟩
set_option maxHeartbeats 1000000 in
theorem c_Inside (lx ly hx hy mx my nx ny : Int) (W : World) :
    Calls Tryz.prog 67 #[.agg #[.int .i64 lx, .int .i64 ly, .int .i64 hx, .int .i64 hy], .agg #[.int .i64 mx, .int .i64 my, .int .i64 nx, .int .i64 ny]] W fun e w' => e = .returned (.bool (boxB lx ly hx hy && boxB mx my nx ny && inB mx my nx ny lx ly && inB mx my nx ny hx hy)) ∧ Gr W w' := by
  obtain ⟨q1, e1⟩ : ∃ q, q = (boxB lx ly hx hy && boxB mx my nx ny) := ⟨_, rfl⟩
  obtain ⟨q2, e2⟩ : ∃ q, q = inB mx my nx ny lx ly := ⟨_, rfl⟩
  obtain ⟨q3, e3⟩ : ∃ q, q = inB mx my nx ny hx hy := ⟨_, rfl⟩
  have M : ∀ b w, b < w.heap.size → w.cell? ⟨b, 0, none⟩ = some (.int .i64 lx) → w.cell? ⟨b, 1, none⟩ = some (.int .i64 ly) → w.cell? ⟨b, 2, none⟩ = some (.int .i64 hx) → w.cell? ⟨b, 3, none⟩ = some (.int .i64 hy) →
      w.cell? ⟨b, 4, none⟩ = some (.int .i64 mx) → w.cell? ⟨b, 5, none⟩ = some (.int .i64 my) → w.cell? ⟨b, 6, none⟩ = some (.int .i64 nx) → w.cell? ⟨b, 7, none⟩ = some (.int .i64 ny) →
      Calls Tryz.prog 102 #[.slice (some ⟨b, 0, none⟩) 2 2] w fun e w' => e = .returned (.bool q1) ∧ Gr w w' := fun b w hb k0 k1 k2 k3 k4 k5 k6 k7 => by
    rw [e1]; exact c_mayBe2 lx ly hx hy mx my nx ny b w hb k0 k1 k2 k3 k4 k5 k6 k7
  have N := c_holds mx my nx ny lx ly
  have O := c_holds mx my nx ny hx hy
  rw [← e1, ← e2, ← e3]
  rw [← e2] at N
  rw [← e3] at O
  have H1 := Lib.hid M
  have H2 := Lib.hid N
  have H3 := Lib.hid O
  clear M N O e1 e2 e3
  have hc : q1 = false ∨ (q1 = true ∧ q2 = false) ∨ (q1 = true ∧ q2 = true) := by cases q1 <;> cases q2 <;> simp
  rcases hc with rfl | ⟨rfl, rfl⟩ | ⟨rfl, rfl⟩
  · go_enter Tryz.func67, Tryz.ntmps67
    go_wp2_with fail
    go_at_call 102
    refine ((H1.out _ _ (by go_simp) (by go_simp) (by go_simp) (by go_simp) (by go_simp) (by go_simp) (by go_simp) (by go_simp) (by go_simp))).mono ?_
    rintro e w1 ⟨rfl, hw1⟩
    have cw1_0_0 := ci hw1 (W.heap.size) 0 lx (by go_simp)
    have cw1_0_1 := ci hw1 (W.heap.size) 1 ly (by go_simp)
    have cw1_0_2 := ci hw1 (W.heap.size) 2 hx (by go_simp)
    have cw1_0_3 := ci hw1 (W.heap.size) 3 hy (by go_simp)
    have cw1_1_0 := ci hw1 (W.heap.size + 1) 0 mx (by go_simp)
    have cw1_1_1 := ci hw1 (W.heap.size + 1) 1 my (by go_simp)
    have cw1_1_2 := ci hw1 (W.heap.size + 1) 2 nx (by go_simp)
    have cw1_1_3 := ci hw1 (W.heap.size + 1) 3 ny (by go_simp)
    have gw1 : Gr W w1 := Gr.trans (by go_grown) hw1
    clear hw1
    go_wp2_with fail
    go_ret
    exact ⟨rfl, by go_grown⟩
  · go_enter Tryz.func67, Tryz.ntmps67
    go_wp2_with fail
    go_at_call 102
    refine ((H1.out _ _ (by go_simp) (by go_simp) (by go_simp) (by go_simp) (by go_simp) (by go_simp) (by go_simp) (by go_simp) (by go_simp))).mono ?_
    rintro e w1 ⟨rfl, hw1⟩
    have cw1_0_0 := ci hw1 (W.heap.size) 0 lx (by go_simp)
    have cw1_0_1 := ci hw1 (W.heap.size) 1 ly (by go_simp)
    have cw1_0_2 := ci hw1 (W.heap.size) 2 hx (by go_simp)
    have cw1_0_3 := ci hw1 (W.heap.size) 3 hy (by go_simp)
    have cw1_1_0 := ci hw1 (W.heap.size + 1) 0 mx (by go_simp)
    have cw1_1_1 := ci hw1 (W.heap.size + 1) 1 my (by go_simp)
    have cw1_1_2 := ci hw1 (W.heap.size + 1) 2 nx (by go_simp)
    have cw1_1_3 := ci hw1 (W.heap.size + 1) 3 ny (by go_simp)
    have gw1 : Gr W w1 := Gr.trans (by go_grown) hw1
    clear hw1
    go_wp2_with fail
    go_at_call 103
    refine ((H2.out _)).mono ?_
    rintro e w2 ⟨rfl, hw2⟩
    have cw2_0_2 := ci hw2 (W.heap.size) 2 hx (by go_simp)
    have cw2_0_3 := ci hw2 (W.heap.size) 3 hy (by go_simp)
    have cw2_1_0 := ci hw2 (W.heap.size + 1) 0 mx (by go_simp)
    have cw2_1_1 := ci hw2 (W.heap.size + 1) 1 my (by go_simp)
    have cw2_1_2 := ci hw2 (W.heap.size + 1) 2 nx (by go_simp)
    have cw2_1_3 := ci hw2 (W.heap.size + 1) 3 ny (by go_simp)
    have gw2 : Gr W w2 := Gr.trans (by have gg := gw1; have gs := gg.size; go_grown) hw2
    clear hw2 gw1 cw1_0_0 cw1_0_1 cw1_0_2 cw1_0_3 cw1_1_0 cw1_1_1 cw1_1_2 cw1_1_3
    go_wp2_with fail
    go_ret
    exact ⟨rfl, by go_grown⟩
  · go_enter Tryz.func67, Tryz.ntmps67
    go_wp2_with fail
    go_at_call 102
    refine ((H1.out _ _ (by go_simp) (by go_simp) (by go_simp) (by go_simp) (by go_simp) (by go_simp) (by go_simp) (by go_simp) (by go_simp))).mono ?_
    rintro e w1 ⟨rfl, hw1⟩
    have cw1_0_0 := ci hw1 (W.heap.size) 0 lx (by go_simp)
    have cw1_0_1 := ci hw1 (W.heap.size) 1 ly (by go_simp)
    have cw1_0_2 := ci hw1 (W.heap.size) 2 hx (by go_simp)
    have cw1_0_3 := ci hw1 (W.heap.size) 3 hy (by go_simp)
    have cw1_1_0 := ci hw1 (W.heap.size + 1) 0 mx (by go_simp)
    have cw1_1_1 := ci hw1 (W.heap.size + 1) 1 my (by go_simp)
    have cw1_1_2 := ci hw1 (W.heap.size + 1) 2 nx (by go_simp)
    have cw1_1_3 := ci hw1 (W.heap.size + 1) 3 ny (by go_simp)
    have gw1 : Gr W w1 := Gr.trans (by go_grown) hw1
    clear hw1
    go_wp2_with fail
    go_at_call 103
    refine ((H2.out _)).mono ?_
    rintro e w2 ⟨rfl, hw2⟩
    have cw2_0_2 := ci hw2 (W.heap.size) 2 hx (by go_simp)
    have cw2_0_3 := ci hw2 (W.heap.size) 3 hy (by go_simp)
    have cw2_1_0 := ci hw2 (W.heap.size + 1) 0 mx (by go_simp)
    have cw2_1_1 := ci hw2 (W.heap.size + 1) 1 my (by go_simp)
    have cw2_1_2 := ci hw2 (W.heap.size + 1) 2 nx (by go_simp)
    have cw2_1_3 := ci hw2 (W.heap.size + 1) 3 ny (by go_simp)
    have gw2 : Gr W w2 := Gr.trans (by have gg := gw1; have gs := gg.size; go_grown) hw2
    clear hw2 gw1 cw1_0_0 cw1_0_1 cw1_0_2 cw1_0_3 cw1_1_0 cw1_1_1 cw1_1_2 cw1_1_3
    go_wp2_with fail
    go_at_call 103
    refine ((H3.out _)).mono ?_
    rintro e w3 ⟨rfl, hw3⟩
    have gw3 : Gr W w3 := Gr.trans (by have gg := gw2; have gs := gg.size; go_grown) hw3
    clear hw3 gw2 cw2_0_2 cw2_0_3 cw2_1_0 cw2_1_1 cw2_1_2 cw2_1_3
    go_wp2_with fail
    go_ret
    exact ⟨rfl, by go_grown⟩
def sqZ (ax ay bx by' : Int) : Int := (bx - ax) * (bx - ax) + (by' - ay) * (by' - ay)
set_option maxHeartbeats 1000000 in
theorem c_Square2 (ax ay bx by' : Int) (W : World) (hq : nearB ax ay = true ∧ nearB bx by' = true) :
    Calls Tryz.prog 117 #[.agg #[.int .i64 ax, .int .i64 ay], .agg #[.int .i64 bx, .int .i64 by']] W fun e w' => e = .returned (.agg #[.int .u64 0, .int .u64 (sqZ ax ay bx by'), .int .u64 1]) ∧ Gr W w' := by
  have M : ∀ b w, b < w.heap.size → w.cell? ⟨b, 0, none⟩ = some (.int .i64 ax) → w.cell? ⟨b, 1, none⟩ = some (.int .i64 ay) → w.cell? ⟨b, 2, none⟩ = some (.int .i64 bx) → w.cell? ⟨b, 3, none⟩ = some (.int .i64 by') →
      Calls Tryz.prog 137 #[.slice (some ⟨b, 0, none⟩) 2 2] w fun e w' => e = .returned (.bool true) ∧ Gr w w' := fun b w hb k0 k1 k2 k3 => by
    have := c_allNear2 ax ay bx by' b w hb k0 k1 k2 k3
    rw [hq.1, hq.2] at this
    exact this
  have n1 := nearB_iff.1 hq.1
  have n2 := nearB_iff.1 hq.2
  have Q := c_squares (bx - ax) (by' - ay) (by omega) (by omega)
  have e1 : wrap64 (bx - ax) = bx - ax := IntWalk.wrap64_in _ (by omega)
  have e2 : wrap64 (by' - ay) = by' - ay := IntWalk.wrap64_in _ (by omega)
  have f1 : IntKind.i64.wrap (bx - ax) = bx - ax := IntWalk.i64_in _ (by omega)
  have f2 : IntKind.i64.wrap (by' - ay) = by' - ay := IntWalk.i64_in _ (by omega)
  obtain ⟨z, hz⟩ : ∃ z, z = sqZ ax ay bx by' := ⟨_, rfl⟩
  have hz' : (bx - ax) * (bx - ax) + (by' - ay) * (by' - ay) = z := hz.symm
  rw [← hz]
  rw [hz'] at Q
  have H1 := Lib.hid M
  have H2 := Lib.hid Q
  clear M Q hq n1 n2 hz hz'
  go_enter Tryz.func117, Tryz.ntmps117
  go_wp2_with fail
  go_at_call 137
  refine ((H1.out _ _ (by go_simp) (by go_simp) (by go_simp) (by go_simp) (by go_simp))).mono ?_
  rintro e w1 ⟨rfl, hw1⟩
  have cw1_0_0 := ci hw1 (W.heap.size) 0 ax (by go_simp)
  have cw1_0_1 := ci hw1 (W.heap.size) 1 ay (by go_simp)
  have cw1_1_0 := ci hw1 (W.heap.size + 1) 0 bx (by go_simp)
  have cw1_1_1 := ci hw1 (W.heap.size + 1) 1 by' (by go_simp)
  have cw1_2_0 := cu hw1 (W.heap.size + 1 + 1) 0 0 (by go_simp)
  have fw1_2_0 := fq hw1 (W.heap.size + 1 + 1) 0 (.int .u64 0) (by go_simp) (by go_simp)
  have cw1_2_1 := cu hw1 (W.heap.size + 1 + 1) 1 0 (by go_simp)
  have fw1_2_1 := fq hw1 (W.heap.size + 1 + 1) 1 (.int .u64 0) (by go_simp) (by go_simp)
  have cw1_2_2 := cu hw1 (W.heap.size + 1 + 1) 2 0 (by go_simp)
  have fw1_2_2 := fq hw1 (W.heap.size + 1 + 1) 2 (.int .u64 0) (by go_simp) (by go_simp)
  have gw1 : Gr W w1 := Gr.trans (by go_grown) hw1
  clear hw1
  go_wp2_with fail
  go_at_call 108
  refine ((H2.out _)).mono ?_
  rintro e w2 ⟨rfl, hw2⟩
  have cw2_2_0 := cu hw2 (W.heap.size + 1 + 1) 0 0 (by go_simp)
  have fw2_2_0 := fq hw2 (W.heap.size + 1 + 1) 0 (.int .u64 0) (by go_simp) (by go_simp)
  have cw2_2_1 := cu hw2 (W.heap.size + 1 + 1) 1 0 (by go_simp)
  have fw2_2_1 := fq hw2 (W.heap.size + 1 + 1) 1 (.int .u64 0) (by go_simp) (by go_simp)
  have cw2_2_2 := cu hw2 (W.heap.size + 1 + 1) 2 0 (by go_simp)
  have fw2_2_2 := fq hw2 (W.heap.size + 1 + 1) 2 (.int .u64 0) (by go_simp) (by go_simp)
  have gw2 : Gr W w2 := Gr.trans (by have gg := gw1; have gs := gg.size; go_grown) hw2
  clear hw2 gw1 cw1_0_0 cw1_0_1 cw1_1_0 cw1_1_1 cw1_2_0 fw1_2_0 cw1_2_1 fw1_2_1 cw1_2_2 fw1_2_2
  go_wp2_with fail
  refine bodyPost_ret (v := .agg #[.int .u64 0, .int .u64 z, .int .u64 1]) (by simp [results, Tryz.results117, go_sem, *]) rfl ⟨rfl, by go_grown⟩
end Go.Proofs.YtfobmlgpjhghdaaGreatDoor
namespace Go.Proofs.YtfobmlgpjhghdaaGreatDoor
set_option linter.unusedVariables false
open Go.ChangeShapes Go.WideShapes Go.ChangeAt Go.RowKit
def distZ (lx ly hx hy px py : Int) : Int := beyZ lx hx px * beyZ lx hx px + beyZ ly hy py * beyZ ly hy py
theorem boxB_iff {lx ly hx hy : Int} : boxB lx ly hx hy = true ↔ (nearB lx ly = true ∧ nearB hx hy = true) ∧ lx ≤ hx ∧ ly ≤ hy := by
  unfold boxB
  simp [and_assoc]
theorem bey_near {lo hi v : Int} (h : lo ≤ hi) (h1 : -1073741823 ≤ lo ∧ lo ≤ 1073741823) (h2 : -1073741823 ≤ hi ∧ hi ≤ 1073741823) (h3 : -1073741823 ≤ v ∧ v ≤ 1073741823) : -2147483646 ≤ beyZ lo hi v ∧ beyZ lo hi v ≤ 2147483646 := by
  unfold beyZ
  split <;> (try split) <;> omega
set_option maxHeartbeats 1000000 in
set_option maxRecDepth 100000 in
theorem c_Dist (lx ly hx hy px py : Int) (W : World) (hq : boxB lx ly hx hy = true ∧ nearB px py = true) :
    Calls Tryz.prog 73 #[.agg #[.int .i64 lx, .int .i64 ly, .int .i64 hx, .int .i64 hy], .agg #[.int .i64 px, .int .i64 py]] W fun e w' => e = .returned (.agg #[.int .u64 0, .int .u64 (distZ lx ly hx hy px py), .int .u64 1]) ∧ Gr W w' := by
  have M : ∀ b w, b < w.heap.size → w.cell? ⟨b, 0, none⟩ = some (.int .i64 lx) → w.cell? ⟨b, 1, none⟩ = some (.int .i64 ly) → w.cell? ⟨b, 2, none⟩ = some (.int .i64 hx) → w.cell? ⟨b, 3, none⟩ = some (.int .i64 hy) →
      Calls Tryz.prog 102 #[.slice (some ⟨b, 0, none⟩) 1 1] w fun e w' => e = .returned (.bool true) ∧ Gr w w' := fun b w hb k0 k1 k2 k3 => by
    rw [← hq.1]; exact c_mayBe1 lx ly hx hy b w hb k0 k1 k2 k3
  have N := c_near px py
  rw [hq.2] at N
  have n1 := nearB_iff.1 (boxB_iff.1 hq.1).1.1
  have n2 := nearB_iff.1 (boxB_iff.1 hq.1).1.2
  have n3 := nearB_iff.1 hq.2
  have n4 := (boxB_iff.1 hq.1).2
  have B1 := c_beyond lx hx px n4.1 ⟨n1.1, n1.2.1⟩ ⟨n2.1, n2.2.1⟩ ⟨n3.1, n3.2.1⟩
  have B2 := c_beyond ly hy py n4.2 n1.2.2 n2.2.2 n3.2.2
  have Q := c_squares (beyZ lx hx px) (beyZ ly hy py) (bey_near n4.1 ⟨n1.1, n1.2.1⟩ ⟨n2.1, n2.2.1⟩ ⟨n3.1, n3.2.1⟩) (bey_near n4.2 n1.2.2 n2.2.2 n3.2.2)
  obtain ⟨z, hz⟩ : ∃ z, z = distZ lx ly hx hy px py := ⟨_, rfl⟩
  have hz' : beyZ lx hx px * beyZ lx hx px + beyZ ly hy py * beyZ ly hy py = z := hz.symm
  rw [← hz]
  rw [hz'] at Q
  have H1 := Lib.hid M
  have H2 := Lib.hid N
  have H3 := Lib.hid B1
  have H4 := Lib.hid B2
  have H5 := Lib.hid Q
  clear M N B1 B2 Q hq n1 n2 n3 n4 hz hz'
  go_enter Tryz.func73, Tryz.ntmps73
  go_wp2_with fail
  go_at_call 102
  refine ((H1.out _ _ (by go_simp) (by go_simp) (by go_simp) (by go_simp) (by go_simp))).mono ?_
  rintro e w1 ⟨rfl, hw1⟩
  have cw1_0_0 := ci hw1 (W.heap.size) 0 lx (by go_simp)
  have cw1_0_1 := ci hw1 (W.heap.size) 1 ly (by go_simp)
  have cw1_0_2 := ci hw1 (W.heap.size) 2 hx (by go_simp)
  have cw1_0_3 := ci hw1 (W.heap.size) 3 hy (by go_simp)
  have cw1_1_0 := ci hw1 (W.heap.size + 1) 0 px (by go_simp)
  have cw1_1_1 := ci hw1 (W.heap.size + 1) 1 py (by go_simp)
  have cw1_2_0 := cu hw1 (W.heap.size + 1 + 1) 0 0 (by go_simp)
  have fw1_2_0 := fq hw1 (W.heap.size + 1 + 1) 0 (.int .u64 0) (by go_simp) (by go_simp)
  have cw1_2_1 := cu hw1 (W.heap.size + 1 + 1) 1 0 (by go_simp)
  have fw1_2_1 := fq hw1 (W.heap.size + 1 + 1) 1 (.int .u64 0) (by go_simp) (by go_simp)
  have cw1_2_2 := cu hw1 (W.heap.size + 1 + 1) 2 0 (by go_simp)
  have fw1_2_2 := fq hw1 (W.heap.size + 1 + 1) 2 (.int .u64 0) (by go_simp) (by go_simp)
  have gw1 : Gr W w1 := Gr.trans (by go_grown) hw1
  clear hw1
  go_wp2_with fail
  go_at_call 72
  refine ((H2.out _)).mono ?_
  rintro e w2 ⟨rfl, hw2⟩
  have cw2_0_0 := ci hw2 (W.heap.size) 0 lx (by go_simp)
  have cw2_0_1 := ci hw2 (W.heap.size) 1 ly (by go_simp)
  have cw2_0_2 := ci hw2 (W.heap.size) 2 hx (by go_simp)
  have cw2_0_3 := ci hw2 (W.heap.size) 3 hy (by go_simp)
  have cw2_1_0 := ci hw2 (W.heap.size + 1) 0 px (by go_simp)
  have cw2_1_1 := ci hw2 (W.heap.size + 1) 1 py (by go_simp)
  have cw2_2_0 := cu hw2 (W.heap.size + 1 + 1) 0 0 (by go_simp)
  have fw2_2_0 := fq hw2 (W.heap.size + 1 + 1) 0 (.int .u64 0) (by go_simp) (by go_simp)
  have cw2_2_1 := cu hw2 (W.heap.size + 1 + 1) 1 0 (by go_simp)
  have fw2_2_1 := fq hw2 (W.heap.size + 1 + 1) 1 (.int .u64 0) (by go_simp) (by go_simp)
  have cw2_2_2 := cu hw2 (W.heap.size + 1 + 1) 2 0 (by go_simp)
  have fw2_2_2 := fq hw2 (W.heap.size + 1 + 1) 2 (.int .u64 0) (by go_simp) (by go_simp)
  have gw2 : Gr W w2 := Gr.trans (by have gg := gw1; have gs := gg.size; go_grown) hw2
  clear hw2 gw1 cw1_0_0 cw1_0_1 cw1_0_2 cw1_0_3 cw1_1_0 cw1_1_1 cw1_2_0 fw1_2_0 cw1_2_1 fw1_2_1 cw1_2_2 fw1_2_2
  go_wp2_with fail
  refine Hd.wp_region_tail 19 (by kernel_rfl) (by kernel_rfl) ?_
  intro KQ hKQ
  repeat (first | (refine Hd.wpG_skip (by decide) rfl ?_; simp only [Act.put, List.setIfInBounds_toArray, List.set_cons_zero, List.set_cons_succ]) | (refine Hd.wpG_want (by decide) rfl ?_; apply Exists.intro; refine ⟨?_, ?_⟩; (· intro wx gx; (obtain ⟨mx, rfl⟩ := gx); all_goals (apply Hd.gAt_of_quiet; intro K hK; go_big_quiet_op; first | exact hK _ rfl | (apply Exists.intro; refine ⟨fun _ => ?_, ?_⟩; (· (first | (go_at_call 109; first | ((with_reducible refine ((H3.out _)).mono ?_); rintro e w' ⟨rfl, hg⟩; exact ⟨rfl, spread_gr hg⟩) | ((with_reducible refine ((H4.out _)).mono ?_); rintro e w' ⟨rfl, hg⟩; exact ⟨rfl, spread_gr hg⟩)) | (go_at_call 108; first | ((with_reducible refine ((H5.out _)).mono ?_); rintro e w' ⟨rfl, hg⟩; exact ⟨rfl, spread_gr hg⟩)))); exact hK _ rfl))); try simp only [Act.put, List.setIfInBounds_toArray, List.set_cons_zero, List.set_cons_succ]))
  refine Hd.wpG_nil (hKQ _ ?_)
  clear hKQ KQ
  intro w3 hhw3
  have hw3 := Hd.gr_of_spread hhw3
  have cw3_2_0 := cu hw3 (W.heap.size + 1 + 1) 0 0 (by go_simp)
  have fw3_2_0 := fq hw3 (W.heap.size + 1 + 1) 0 (.int .u64 0) (by go_simp) (by go_simp)
  have cw3_2_1 := cu hw3 (W.heap.size + 1 + 1) 1 0 (by go_simp)
  have fw3_2_1 := fq hw3 (W.heap.size + 1 + 1) 1 (.int .u64 0) (by go_simp) (by go_simp)
  have cw3_2_2 := cu hw3 (W.heap.size + 1 + 1) 2 0 (by go_simp)
  have fw3_2_2 := fq hw3 (W.heap.size + 1 + 1) 2 (.int .u64 0) (by go_simp) (by go_simp)
  have gw3 : Gr W w3 := Gr.trans (by have gg := gw2; have gs := gg.size; go_grown) hw3
  clear hw3 hhw3 gw2 cw2_0_0 cw2_0_1 cw2_0_2 cw2_0_3 cw2_1_0 cw2_1_1 cw2_2_0 fw2_2_0 cw2_2_1 fw2_2_1 cw2_2_2 fw2_2_2
  go_wp2_with fail
  refine bodyPost_ret (v := .agg #[.int .u64 0, .int .u64 z, .int .u64 1]) (by simp [results, Tryz.results73, go_sem, *]) rfl ⟨rfl, by go_grown⟩
theorem cross_bound (ax ay bx by' cx cy : Int) : -9223372019674906632 ≤ crossZ ax ay bx by' cx cy ∧ crossZ ax ay bx by' cx cy ≤ 9223372019674906632 := by
  unfold crossZ
  split
  · rename_i hq
    have hq' : (nearB ax ay = true ∧ nearB bx by' = true) ∧ nearB cx cy = true := by simpa using hq
    have n1 := nearB_iff.1 hq'.1.1
    have n2 := nearB_iff.1 hq'.1.2
    have n3 := nearB_iff.1 hq'.2
    have m1 := mul_near (x := bx - ax) (y := cy - ay) (by omega) (by omega)
    have m2 := mul_near (x := by' - ay) (y := cx - ax) (by omega) (by omega)
    omega
  · omega
end Go.Proofs.YtfobmlgpjhghdaaGreatDoor
namespace Go.Proofs.YtfobmlgpjhghdaaGreatDoor
set_option linter.unusedVariables false
open Go.ChangeShapes Go.WideShapes Go.ChangeAt Go.RowKit
def boxCode (lx ly hx hy : Int) : Int := if nearB lx ly && nearB hx hy then (if decide (lx ≤ hx) && decide (ly ≤ hy) then 0 else 1) else 2
theorem boxCode_zero {lx ly hx hy : Int} : (boxCode lx ly hx hy == 0) = boxB lx ly hx hy := by
  unfold boxCode boxB
  cases nearB lx ly <;> cases nearB hx hy <;> cases decide (lx ≤ hx) <;> cases decide (ly ≤ hy) <;> rfl
theorem c_rCheckBox (lx ly hx hy : Int) (W : World) :
    Calls Tryz.prog 25 #[.agg #[.int .i64 lx, .int .i64 ly, .int .i64 hx, .int .i64 hy]] W fun e w' => e = .returned (.int .i64 (boxCode lx ly hx hy)) ∧ Gr W w' := by
  have H1 := Lib.hid (c_rPoint lx ly)
  have H2 := Lib.hid (c_rPoint hx hy)
  obtain ⟨q, hq⟩ : ∃ q, q = nearB lx ly := ⟨_, rfl⟩
  obtain ⟨r, hr⟩ : ∃ r, r = nearB hx hy := ⟨_, rfl⟩
  unfold boxCode
  rw [← hq] at H1 ⊢
  rw [← hr] at H2 ⊢
  have T1 : decide (lx ≤ hx) = !decide (hx < lx) := by by_cases h : hx < lx <;> simp [h] <;> omega
  have T2 : decide (ly ≤ hy) = !decide (hy < ly) := by by_cases h : hy < ly <;> simp [h] <;> omega
  rw [T1, T2]
  clear T1 T2 hq hr
  cases q
  · simp only [Bool.false_and, Bool.false_eq_true, if_false]
    go_enter Tryz.func25, Tryz.ntmps25
    go_wp2_with fail
    go_at_call 24
    refine ((H1.out _)).mono ?_
    rintro e w1 ⟨rfl, hw1⟩
    have cw1_0_0 := ci hw1 (W.heap.size) 0 lx (by go_simp)
    have cw1_0_1 := ci hw1 (W.heap.size) 1 ly (by go_simp)
    have cw1_0_2 := ci hw1 (W.heap.size) 2 hx (by go_simp)
    have cw1_0_3 := ci hw1 (W.heap.size) 3 hy (by go_simp)
    have gw1 : Gr W w1 := Gr.trans (by go_grown) hw1
    clear hw1
    go_wp2_with fail
    go_ret
    exact ⟨rfl, by go_grown⟩
  · cases r
    · simp only [Bool.and_false, Bool.false_eq_true, if_false]
      go_enter Tryz.func25, Tryz.ntmps25
      go_wp2_with fail
      go_at_call 24
      refine ((H1.out _)).mono ?_
      rintro e w1 ⟨rfl, hw1⟩
      have cw1_0_0 := ci hw1 (W.heap.size) 0 lx (by go_simp)
      have cw1_0_1 := ci hw1 (W.heap.size) 1 ly (by go_simp)
      have cw1_0_2 := ci hw1 (W.heap.size) 2 hx (by go_simp)
      have cw1_0_3 := ci hw1 (W.heap.size) 3 hy (by go_simp)
      have gw1 : Gr W w1 := Gr.trans (by go_grown) hw1
      clear hw1
      go_wp2_with fail
      go_at_call 24
      refine ((H2.out _)).mono ?_
      rintro e w2 ⟨rfl, hw2⟩
      have cw2_0_0 := ci hw2 (W.heap.size) 0 lx (by go_simp)
      have cw2_0_1 := ci hw2 (W.heap.size) 1 ly (by go_simp)
      have cw2_0_2 := ci hw2 (W.heap.size) 2 hx (by go_simp)
      have cw2_0_3 := ci hw2 (W.heap.size) 3 hy (by go_simp)
      have gw2 : Gr W w2 := Gr.trans (by have gg := gw1; have gs := gg.size; go_grown) hw2
      clear hw2 gw1 cw1_0_0 cw1_0_1 cw1_0_2 cw1_0_3
      go_wp2_with fail
      go_ret
      exact ⟨rfl, by go_grown⟩
    · simp only [Bool.and_true, if_true]
      by_cases a1 : hx < lx
      · simp only [a1, decide_true, Bool.not_true, Bool.false_and, Bool.false_eq_true, if_false]
        have b1 : ¬ lx ≤ hx := by omega
        go_enter Tryz.func25, Tryz.ntmps25
        go_wp2_with fail
        go_at_call 24
        refine ((H1.out _)).mono ?_
        rintro e w1 ⟨rfl, hw1⟩
        have cw1_0_0 := ci hw1 (W.heap.size) 0 lx (by go_simp)
        have cw1_0_1 := ci hw1 (W.heap.size) 1 ly (by go_simp)
        have cw1_0_2 := ci hw1 (W.heap.size) 2 hx (by go_simp)
        have cw1_0_3 := ci hw1 (W.heap.size) 3 hy (by go_simp)
        have gw1 : Gr W w1 := Gr.trans (by go_grown) hw1
        clear hw1
        go_wp2_with fail
        go_at_call 24
        refine ((H2.out _)).mono ?_
        rintro e w2 ⟨rfl, hw2⟩
        have cw2_0_0 := ci hw2 (W.heap.size) 0 lx (by go_simp)
        have cw2_0_1 := ci hw2 (W.heap.size) 1 ly (by go_simp)
        have cw2_0_2 := ci hw2 (W.heap.size) 2 hx (by go_simp)
        have cw2_0_3 := ci hw2 (W.heap.size) 3 hy (by go_simp)
        have gw2 : Gr W w2 := Gr.trans (by have gg := gw1; have gs := gg.size; go_grown) hw2
        clear hw2 gw1 cw1_0_0 cw1_0_1 cw1_0_2 cw1_0_3
        go_wp2_with fail
        go_ret
        exact ⟨rfl, by go_grown⟩
      · by_cases a2 : hy < ly
        · simp only [a1, a2, decide_true, decide_false, Bool.not_true, Bool.not_false, Bool.true_and, Bool.false_eq_true, if_false]
          go_enter Tryz.func25, Tryz.ntmps25
          go_wp2_with fail
          go_at_call 24
          refine ((H1.out _)).mono ?_
          rintro e w1 ⟨rfl, hw1⟩
          have cw1_0_0 := ci hw1 (W.heap.size) 0 lx (by go_simp)
          have cw1_0_1 := ci hw1 (W.heap.size) 1 ly (by go_simp)
          have cw1_0_2 := ci hw1 (W.heap.size) 2 hx (by go_simp)
          have cw1_0_3 := ci hw1 (W.heap.size) 3 hy (by go_simp)
          have gw1 : Gr W w1 := Gr.trans (by go_grown) hw1
          clear hw1
          go_wp2_with fail
          go_at_call 24
          refine ((H2.out _)).mono ?_
          rintro e w2 ⟨rfl, hw2⟩
          have cw2_0_0 := ci hw2 (W.heap.size) 0 lx (by go_simp)
          have cw2_0_1 := ci hw2 (W.heap.size) 1 ly (by go_simp)
          have cw2_0_2 := ci hw2 (W.heap.size) 2 hx (by go_simp)
          have cw2_0_3 := ci hw2 (W.heap.size) 3 hy (by go_simp)
          have gw2 : Gr W w2 := Gr.trans (by have gg := gw1; have gs := gg.size; go_grown) hw2
          clear hw2 gw1 cw1_0_0 cw1_0_1 cw1_0_2 cw1_0_3
          go_wp2_with fail
          go_ret
          exact ⟨rfl, by go_grown⟩
        · simp only [a1, a2, decide_false, Bool.not_false, Bool.and_self, if_true]
          go_enter Tryz.func25, Tryz.ntmps25
          go_wp2_with fail
          go_at_call 24
          refine ((H1.out _)).mono ?_
          rintro e w1 ⟨rfl, hw1⟩
          have cw1_0_0 := ci hw1 (W.heap.size) 0 lx (by go_simp)
          have cw1_0_1 := ci hw1 (W.heap.size) 1 ly (by go_simp)
          have cw1_0_2 := ci hw1 (W.heap.size) 2 hx (by go_simp)
          have cw1_0_3 := ci hw1 (W.heap.size) 3 hy (by go_simp)
          have gw1 : Gr W w1 := Gr.trans (by go_grown) hw1
          clear hw1
          go_wp2_with fail
          go_at_call 24
          refine ((H2.out _)).mono ?_
          rintro e w2 ⟨rfl, hw2⟩
          have cw2_0_0 := ci hw2 (W.heap.size) 0 lx (by go_simp)
          have cw2_0_1 := ci hw2 (W.heap.size) 1 ly (by go_simp)
          have cw2_0_2 := ci hw2 (W.heap.size) 2 hx (by go_simp)
          have cw2_0_3 := ci hw2 (W.heap.size) 3 hy (by go_simp)
          have gw2 : Gr W w2 := Gr.trans (by have gg := gw1; have gs := gg.size; go_grown) hw2
          clear hw2 gw1 cw1_0_0 cw1_0_1 cw1_0_2 cw1_0_3
          go_wp2_with fail
          go_ret
          exact ⟨rfl, by go_grown⟩
def meetB (lx ly hx hy mx my nx ny : Int) : Bool := decide (lx ≤ nx) && decide (mx ≤ hx) && decide (ly ≤ ny) && decide (my ≤ hy)
set_option maxHeartbeats 2000000 in
theorem c_rBoxMeets (lx ly hx hy mx my nx ny : Int) (W : World) :
    Calls Tryz.prog 27 #[.agg #[.int .i64 lx, .int .i64 ly, .int .i64 hx, .int .i64 hy], .agg #[.int .i64 mx, .int .i64 my, .int .i64 nx, .int .i64 ny]] W fun e w' => e = .returned (.bool (boxB lx ly hx hy && boxB mx my nx ny && meetB lx ly hx hy mx my nx ny)) ∧ Gr W w' := by
  obtain ⟨r, hr⟩ : ∃ r, r = (boxB lx ly hx hy && boxB mx my nx ny && meetB lx ly hx hy mx my nx ny) := ⟨_, rfl⟩
  rw [← hr]
  obtain ⟨k1, e1⟩ : ∃ k, k = boxCode lx ly hx hy := ⟨_, rfl⟩
  obtain ⟨k2, e2⟩ : ∃ k, k = boxCode mx my nx ny := ⟨_, rfl⟩
  have M := c_rCheckBox lx ly hx hy
  have N := c_rCheckBox mx my nx ny
  rw [← e1] at M
  rw [← e2] at N
  rw [← boxCode_zero, ← boxCode_zero, ← e1, ← e2] at hr
  have H1 := Lib.hid M
  have H2 := Lib.hid N
  clear M N e1 e2
  unfold meetB at hr
  have hc : ((k1 == 0) = false ∧ r = false) ∨ (k1 = 0 ∧ (k2 == 0) = false ∧ r = false) ∨ (k1 = 0 ∧ k2 = 0 ∧ ¬ lx ≤ nx ∧ r = false) ∨ (k1 = 0 ∧ k2 = 0 ∧ lx ≤ nx ∧ ¬ mx ≤ hx ∧ r = false) ∨ (k1 = 0 ∧ k2 = 0 ∧ lx ≤ nx ∧ mx ≤ hx ∧ ¬ ly ≤ ny ∧ r = false) ∨ (k1 = 0 ∧ k2 = 0 ∧ lx ≤ nx ∧ mx ≤ hx ∧ ly ≤ ny ∧ ¬ my ≤ hy ∧ r = false) ∨ (k1 = 0 ∧ k2 = 0 ∧ lx ≤ nx ∧ mx ≤ hx ∧ ly ≤ ny ∧ my ≤ hy ∧ r = true) := by
    by_cases z1 : k1 = 0
    · by_cases z2 : k2 = 0
      · subst z1 z2
        right; right
        by_cases a1 : lx ≤ nx <;> by_cases a2 : mx ≤ hx <;> by_cases a3 : ly ≤ ny <;> by_cases a4 : my ≤ hy <;> simp [hr, a1, a2, a3, a4]
      · have : (k2 == 0) = false := by simpa using z2
        right; left; exact ⟨z1, this, by rw [hr, this]; simp⟩
    · have : (k1 == 0) = false := by simpa using z1
      left; exact ⟨this, by rw [hr, this]; simp⟩
  clear hr
  rcases hc with ⟨z1, rfl⟩ | ⟨rfl, z2, rfl⟩ | ⟨rfl, rfl, a1, rfl⟩ | ⟨rfl, rfl, a1, a2, rfl⟩ | ⟨rfl, rfl, a1, a2, a3, rfl⟩ | ⟨rfl, rfl, a1, a2, a3, a4, rfl⟩ | ⟨rfl, rfl, a1, a2, a3, a4, rfl⟩
  · go_enter Tryz.func27, Tryz.ntmps27
    go_wp2_with fail
    go_at_call 25
    refine ((H1.out _)).mono ?_
    rintro e w1 ⟨rfl, hw1⟩
    have cw1_0_0 := ci hw1 (W.heap.size) 0 lx (by go_simp)
    have cw1_0_1 := ci hw1 (W.heap.size) 1 ly (by go_simp)
    have cw1_0_2 := ci hw1 (W.heap.size) 2 hx (by go_simp)
    have cw1_0_3 := ci hw1 (W.heap.size) 3 hy (by go_simp)
    have cw1_1_0 := ci hw1 (W.heap.size + 1) 0 mx (by go_simp)
    have cw1_1_1 := ci hw1 (W.heap.size + 1) 1 my (by go_simp)
    have cw1_1_2 := ci hw1 (W.heap.size + 1) 2 nx (by go_simp)
    have cw1_1_3 := ci hw1 (W.heap.size + 1) 3 ny (by go_simp)
    have gw1 : Gr W w1 := Gr.trans (by go_grown) hw1
    clear hw1
    go_wp2_with fail
    go_ret
    exact ⟨rfl, by go_grown⟩
  all_goals
    go_enter Tryz.func27, Tryz.ntmps27
    go_wp2_with fail
    go_at_call 25
    refine ((H1.out _)).mono ?_
    rintro e w1 ⟨rfl, hw1⟩
    have cw1_0_0 := ci hw1 (W.heap.size) 0 lx (by go_simp)
    have cw1_0_1 := ci hw1 (W.heap.size) 1 ly (by go_simp)
    have cw1_0_2 := ci hw1 (W.heap.size) 2 hx (by go_simp)
    have cw1_0_3 := ci hw1 (W.heap.size) 3 hy (by go_simp)
    have cw1_1_0 := ci hw1 (W.heap.size + 1) 0 mx (by go_simp)
    have cw1_1_1 := ci hw1 (W.heap.size + 1) 1 my (by go_simp)
    have cw1_1_2 := ci hw1 (W.heap.size + 1) 2 nx (by go_simp)
    have cw1_1_3 := ci hw1 (W.heap.size + 1) 3 ny (by go_simp)
    have gw1 : Gr W w1 := Gr.trans (by go_grown) hw1
    clear hw1
    go_wp2_with fail
    go_at_call 25
    refine ((H2.out _)).mono ?_
    rintro e w2 ⟨rfl, hw2⟩
    have cw2_0_0 := ci hw2 (W.heap.size) 0 lx (by go_simp)
    have cw2_0_1 := ci hw2 (W.heap.size) 1 ly (by go_simp)
    have cw2_0_2 := ci hw2 (W.heap.size) 2 hx (by go_simp)
    have cw2_0_3 := ci hw2 (W.heap.size) 3 hy (by go_simp)
    have cw2_1_0 := ci hw2 (W.heap.size + 1) 0 mx (by go_simp)
    have cw2_1_1 := ci hw2 (W.heap.size + 1) 1 my (by go_simp)
    have cw2_1_2 := ci hw2 (W.heap.size + 1) 2 nx (by go_simp)
    have cw2_1_3 := ci hw2 (W.heap.size + 1) 3 ny (by go_simp)
    have gw2 : Gr W w2 := Gr.trans (by have gg := gw1; have gs := gg.size; go_grown) hw2
    clear hw2 gw1 cw1_0_0 cw1_0_1 cw1_0_2 cw1_0_3 cw1_1_0 cw1_1_1 cw1_1_2 cw1_1_3
    go_wp2_with fail
    go_ret
    exact ⟨by first | rfl | simp [a4], by go_grown⟩
end Go.Proofs.YtfobmlgpjhghdaaGreatDoor
namespace Go.Proofs.YtfobmlgpjhghdaaGreatDoor
set_option linter.unusedVariables false
open Go.ChangeShapes Go.WideShapes Go.ChangeAt Go.RowKit
theorem inB_iff {lx ly hx hy px py : Int} : inB lx ly hx hy px py = true ↔ lx ≤ px ∧ px ≤ hx ∧ ly ≤ py ∧ py ≤ hy := by
  unfold inB; simp [and_assoc]
end Go.Proofs.YtfobmlgpjhghdaaGreatDoor
namespace Go.Proofs.YtfobmlgpjhghdaaGreatDoor
set_option linter.unusedVariables false
open Go.ChangeShapes Go.WideShapes Go.ChangeAt Go.RowKit
theorem sqZ_bound {ax ay bx by' : Int} (h1 : nearB ax ay = true) (h2 : nearB bx by' = true) : sqZ ax ay bx by' ≤ 9223372019674906632 := by
  have n1 := nearB_iff.1 h1
  have n2 := nearB_iff.1 h2
  have m1 := mul_near (x := bx - ax) (y := bx - ax) (by omega) (by omega)
  have m2 := mul_near (x := by' - ay) (y := by' - ay) (by omega) (by omega)
  unfold sqZ; omega
theorem eqPt (ax ay bx by' : Int) (w : World) : (binOp .eql 26 (.agg #[.int .i64 ax, .int .i64 ay]) (.agg #[.int .i64 bx, .int .i64 by'])).run Tryz.prog w = .ok (.bool (decide (ax = bx ∧ ay = by'))) w := by
  by_cases h1 : ax = bx
  · subst h1
    by_cases h2 : ay = by'
    · subst h2
      simp [go_sem]
    · have e : (ay == by') = false := by simpa using h2
      simp [go_sem, h2, e]
  · have e : (ax == bx) = false := by simpa using h1
    simp [go_sem, h1, e]
end Go.Proofs.YtfobmlgpjhghdaaGreatDoor
namespace Go.Proofs.YtfobmlgpjhghdaaGreatDoor
set_option linter.unusedVariables false
open Go.ChangeShapes Go.WideShapes Go.ChangeAt Go.RowKit
def minZ (a b : Int) : Int := if b < a then b else a
def maxZ (a b : Int) : Int := if a < b then b else a
set_option maxHeartbeats 1000000 in
set_option maxRecDepth 100000 in
theorem c_join (lx ly hx hy mx my nx ny : Int) (W : World) :
    Calls Tryz.prog 101 #[.agg #[.int .i64 lx, .int .i64 ly, .int .i64 hx, .int .i64 hy], .agg #[.int .i64 mx, .int .i64 my, .int .i64 nx, .int .i64 ny]] W fun e w' => e = .returned (.agg #[.int .i64 (minZ lx mx), .int .i64 (minZ ly my), .int .i64 (maxZ hx nx), .int .i64 (maxZ hy ny)]) ∧ Gr W w' := by
  have m1 : ∀ w, (Builtin.min_ #[3, 3] 3 #[.int .i64 lx, .int .i64 mx]).run Tryz.prog w = .ok (.int .i64 (minZ lx mx)) w := fun w => by simp [Builtin.min_, Builtin.min2, go_sem, minZ]
  have m2 : ∀ w, (Builtin.min_ #[3, 3] 3 #[.int .i64 ly, .int .i64 my]).run Tryz.prog w = .ok (.int .i64 (minZ ly my)) w := fun w => by simp [Builtin.min_, Builtin.min2, go_sem, minZ]
  have m3 : ∀ w, (Builtin.max_ #[3, 3] 3 #[.int .i64 hx, .int .i64 nx]).run Tryz.prog w = .ok (.int .i64 (maxZ hx nx)) w := fun w => by simp [Builtin.max_, Builtin.max2, go_sem, maxZ]
  have m4 : ∀ w, (Builtin.max_ #[3, 3] 3 #[.int .i64 hy, .int .i64 ny]).run Tryz.prog w = .ok (.int .i64 (maxZ hy ny)) w := fun w => by simp [Builtin.max_, Builtin.max2, go_sem, maxZ]
  go_enter Tryz.func101, Tryz.ntmps101
  go_wp2_with fail
  refine bodyPost_ret (v := .agg #[.int .i64 (minZ lx mx), .int .i64 (minZ ly my), .int .i64 (maxZ hx nx), .int .i64 (maxZ hy ny)]) (by simp [results, Tryz.results101, go_sem, *]) rfl ⟨rfl, by go_grown⟩
theorem minZ_self (a : Int) : minZ a a = a := by unfold minZ; simp
theorem maxZ_self (a : Int) : maxZ a a = a := by unfold maxZ; simp
theorem c_join_self (lx ly hx hy : Int) (W : World) :
    Calls Tryz.prog 101 #[.agg #[.int .i64 lx, .int .i64 ly, .int .i64 hx, .int .i64 hy], .agg #[.int .i64 lx, .int .i64 ly, .int .i64 hx, .int .i64 hy]] W fun e w' => e = .returned (.agg #[.int .i64 lx, .int .i64 ly, .int .i64 hx, .int .i64 hy]) ∧ Gr W w' := by
  have h := c_join lx ly hx hy lx ly hx hy W
  simp only [minZ_self, maxZ_self] at h
  exact h
end Go.Proofs.YtfobmlgpjhghdaaGreatDoor
