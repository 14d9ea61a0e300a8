/- What the laws of this seat have in common: worlds that only grow, tables of the library that are laid, and a law's last step.; A region that draws its order, whose operations read old memory alone and whose callees make new blocks alone: one walk in the text's order.; strconv.FormatUint in base ten writes a number's digits, and leaves the old memory as it was.; wide's functions, by what they answer.; Division of a number of two words by one word, digit by digit: the plain arithmetic.; math/bits.Div64 at every divisor that is greater than the higher word.; wide's division and its decimal text.; what the document fixes of wide: awake answers true; and three more functions; WideBack's walk -/
import Derived.Test.YtogflfepkddbhaaDoorRows
import Derived.WalkKit
import Derived.ProofKit
import Derived.OpenShut
import Derived.Handy
import Derived.Lib.LaidTab
import Derived.Lib.ItoaMem
import Derived.Lib.Walk
import Derived.Deep.QuietTactic
import Derived.BigQuiet
import Derived.Deep.RegionHeld3
import Derived.Deep.DeepHandedRow
import Derived.Lib.Hide
import Derived.Shelf.Spec.BitsCarry
import Derived.Outline
import Derived.Test.YtogflfepkddbhaaDoorShelf
import Derived.BigCall
import Derived.BigGuard
import Derived.Laws.Bits64b
import Derived.Deep.CutBlock
import Derived.Deep.DeepCutAuto
import Derived.Deep.LoopGhost
namespace Go.Proofs.YtogflfepkddbhaaDoor
set_option linter.unusedVariables false
open Go.ChangeShapes Go.WideShapes Go.ChangeAt Go.RowKit

/-- w' is w with new blocks alone. -/
abbrev Gr (w w' : World) : Prop := Below w.heap.size w w'
theorem Gr.trans {a b c : World} (h : Gr a b) (k : Gr b c) : Gr a c := Below.trans h (k.mono h.size)
theorem Gr.of_eq {a b : World} (h : b = a) : Gr a b := by subst h; exact Below.refl _ _
theorem Gr.drewN {a b : World} (h : Gr a b) (n : Nat) : Gr a (b.drewN n) := ⟨h.os, h.tape, h.output, h.size, h.block⟩
theorem Gr.grow {a : World} (n : Nat) (os : Array Obj) : Gr a (Sort.grow (a.drewN n) os) :=
  ⟨rfl, rfl, rfl, by simp [Sort.grow], fun k hk => Sort.heap_grow_old (a.drewN n) os (by simpa using hk)⟩

/-- A listed table outlives whatever leaves the old blocks as they are. -/
theorem tab_below {w w' : World} {name : String} {k : IntKind} {zs : List Int} (h : Lib.TabIs Tryd.prog w name k zs) (hg : Gr w w') : Lib.TabIs Tryd.prog w' name k zs := by
  unfold Lib.TabIs World.var? at *
  cases hn : Tryd.prog.globalNamed name with
  | none => simp [hn] at h
  | some g =>
    simp only [hn, Option.bind_some] at h ⊢
    have hlt : g < w.heap.size := by
      rcases Nat.lt_or_ge g w.heap.size with h' | h'
      · exact h'
      · rw [Array.getElem?_eq_none h'] at h; simp at h
    rw [hg.block g hlt]
    exact h

/-- What a caller goes on with behind a contract: the old blocks' cells and marks. -/
theorem bcell {W w1 : World} (hb : Gr W w1) : (∀ b o, b < W.heap.size → w1.cell? ⟨b, o, none⟩ = W.cell? ⟨b, o, none⟩) ∧ (∀ b o, b < W.heap.size → w1.frozen? ⟨b, o, none⟩ = W.frozen? ⟨b, o, none⟩) :=
  ⟨fun b o h => hb.cell (p := ⟨b, o, none⟩) h, fun b o h => hb.frozen (p := ⟨b, o, none⟩) h⟩

/-- A cell that is there stays, if only new blocks come. -/
theorem cell_gr {a b : World} {p : Addr} {v : Value} (g : Gr a b) (h : a.cell? p = some v) : b.cell? p = some v := (g.cell (World.block_lt_of_cell? a p h)).trans h
theorem frozen_gr {a b : World} {p : Addr} {v : Value} (g : Gr a b) (h : a.cell? p = some v) (hf : a.frozen? p = false) : b.frozen? p = false := (g.frozen (World.block_lt_of_cell? a p h)).trans hf
theorem Gr.drew {a b : World} (h : Gr a b) : Gr a b.drew := ⟨h.os, h.tape, h.output, h.size, h.block⟩

section
variable {H : Type} {enc : TypeId × Value → H} {P : Program}
/-- All arguments read behind the call as they did. -/
theorem trodAll_below (hl : laidOutB P = true) {W W' : World} (hb : Gr W W') {sp : Nat → Bool} :
    ∀ {ts : List TypeId} {vs : List Value} {ds : List (DataW H)} {ps : List MemPlace}, (∀ t ∈ ts, P.readableRec t = true ∧ t < P.types.size) →
      DataW.TrodAll enc P W 0 (fun _ => true) true ts vs ds ps → (∀ x ∈ ps, x.block < W.heap.size) → (∀ x ∈ ps, sp x.block = true) →
      DataW.TrodAll enc P W' 0 sp true ts vs ds ps
  | [], vs, ds, ps, _, h, _, _ => by
    obtain ⟨rfl, rfl, rfl⟩ := trodAll_nil h
    exact trodAll_mk0
  | t :: ts, vs, ds, ps, ht, h, hlt, hsp => by
    obtain ⟨v, vs', d, ds', p, q, rfl, rfl, rfl, h0, hr⟩ := trodAll_cons h
    refine trodAll_cons_mk ?_ (trodAll_below hl hb (fun u hu => ht u (List.mem_cons_of_mem _ hu)) hr (fun x hx => hlt x (List.mem_append_right _ hx)) (fun x hx => hsp x (List.mem_append_right _ hx)))
    exact WideElems.Trod_stays hl (ht t List.mem_cons_self).1 (ht t List.mem_cons_self).2 h0 (fun x hx => hb.same (hlt x (List.mem_append_left _ hx))) (fun x hx => hsp x (List.mem_append_left _ hx))

/-- A LAW's LAST STEP: it answered true, and only new blocks came. -/
theorem law_post (hl : laidOutB P = true) {f : Func} {s : ChangeSpec} {W W' : World} {args : Array Value} {ds gs : List (DataW H)} {before : List MemPlace} {tb : TypeId}
    (hts : ∀ t ∈ f.params.toList, P.readableRec t = true ∧ t < P.types.size)
    (hvs : s.vars = []) (hr : f.resultTypes = #[tb]) (htb : P.underlying tb = some .bool)
    (hfn : (s.fn H (ds ++ gs)).results = [.lit (.bool true)] ∧ (s.fn H (ds ++ gs)).args = ds ∧ (s.fn H (ds ++ gs)).vars = [])
    (hW : DataW.Whole enc P f.params.toList s.vars false W args.toList ds gs before) (hb : Gr W W') :
    s.post enc P f false true false false W args (.bool true) W' := by
  have hW' := hW
  obtain ⟨p, q, hA, hV, rfl, hz, hn⟩ := hW
  have hlt : ∀ x ∈ p ++ q, x.block < W.heap.size := fun x hx => hW'.lt x hx
  rw [hvs] at hV
  obtain ⟨rfl, rfl⟩ := trodVars_none hV
  have hsz : f.resultTypes.toList = [tb] := by rw [hr]
  have hrs : (Value.bool true).resultList f.resultTypes.size = [.bool true] := by rw [hr]; rfl
  have hres : ∀ (b : Nat) (sp : Nat → Bool) (hd : Bool), DataW.TrodAll enc P W' b sp hd f.resultTypes.toList ((Value.bool true).resultList f.resultTypes.size) (s.fn H (ds ++ [])).results [] := fun b sp hd => by
    rw [hsz, hrs, hfn.1]
    exact trodAll_cons_mk (shut_bool htb _) trodAll_mk0
  have hargs : ∀ sp : Nat → Bool, (∀ x ∈ p ++ [], sp x.block = true) → DataW.TrodAll enc P W' 0 sp true f.params.toList args.toList (s.fn H (ds ++ [])).args p := fun sp hsp => by
    rw [hfn.2.1]
    exact trodAll_below hl hb hts hA (fun x hx => hlt x (List.mem_append_left _ hx)) (fun x hx => hsp x (List.mem_append_left _ hx))
  have hvars : ∀ sp : Nat → Bool, (∀ x ∈ p ++ [], sp x.block = true) → DataW.TrodVars enc P W' sp s.vars (s.fn H (ds ++ [])).vars [] := fun sp _ => by
    rw [hfn.2.2, hvs]
    rfl
  have hold : ∀ x ∈ p ++ [], (fun b => decide (b < W.heap.size)) x.block = true := fun x hx => by simpa using hlt x hx
  refine ⟨ds, [], p ++ [], [], p, [], hW', hres _ _ _, hargs _ hold, hvars _ hold, World.keptBut_mono (fun x hx => ⟨hx, Or.inr (by simpa using hx)⟩) (hb.frame (· ∈ p ++ [])), fun _ => ?_⟩
  refine ⟨?_, _, _, ([] ++ p) ++ [], ⟨[] ++ p, [], trodAll_append (hargs _ (fun _ _ => rfl)) (hres _ _ _), hvars _ (fun _ _ => rfl), rfl, ?_, ?_⟩, ?_⟩
  · intro j t r h1 h2
    rw [hr] at h1
    rw [hrs] at h2
    cases j with
    | zero =>
      simp at h1 h2
      subst h1 h2
      exact okWide_bool_mk htb _
    | succ j => simp at h1
  · intro b off hp
    have hin : MemPlace.cell b off ∈ p ++ [] := by simpa using hp
    rw [hb.frozen (hlt _ hin)]
    exact hz b off hin
  · intro ha
    cases ha
  · intro x hx _
    simpa using hx
end
end Go.Proofs.YtogflfepkddbhaaDoor
namespace Go.Proofs.YtogflfepkddbhaaDoor
set_option linter.unusedVariables false
open Go.ChangeShapes Go.WideShapes Go.ChangeAt Go.RowKit

/-- What comes to a world: new blocks; the count of draws. -/
structure More where
  d : Nat
  os : Array Obj
instance : Nonempty More := ⟨⟨0, #[]⟩⟩
/-- w with these blocks behind it, the count of draws at d. -/
def spread (w : World) (m : More) : World := { w with heap := w.heap ++ m.os, drawn := m.d }

theorem gr_spread (w : World) (m : More) : Gr w (spread w m) :=
  ⟨rfl, rfl, rfl, by simp [spread], fun k hk => by simp [spread, Array.getElem?_append, hk]⟩
theorem spread_of_gr {w w' : World} (g : Gr w w') : ∃ m, w' = spread w m := by
  refine ⟨⟨w'.drawn, w'.heap.extract w.heap.size w'.heap.size⟩, ?_⟩
  have hh : w'.heap = w.heap ++ w'.heap.extract w.heap.size w'.heap.size := by
    refine Array.ext_getElem? fun k => ?_
    rw [Array.getElem?_append]
    split
    · rename_i hk
      exact g.block k hk
    · rename_i hk
      rw [Array.getElem?_extract]
      have hs := g.size
      by_cases hk2 : k < w'.heap.size
      · rw [if_pos (by omega), show w.heap.size + (k - w.heap.size) = k by omega]
      · rw [if_neg (by omega), Array.getElem?_eq_none (by omega)]
  obtain ⟨h1, h2, h3, h4, h5⟩ := g
  cases w'
  simp only [spread] at *
  subst h1 h2 h3
  congr
theorem spread_gr {w : World} {m : More} {w' : World} (g : Gr (spread w m) w') : ∃ m', w' = spread w m' := spread_of_gr (Gr.trans (gr_spread w m) g)

@[go_sem] theorem cell?_spread (w : World) (m : More) (a : Addr) (h : (w.cell? a).isSome = true) : (spread w m).cell? a = w.cell? a := by
  obtain ⟨u, hu⟩ := Option.isSome_iff_exists.1 h
  exact (gr_spread w m).cell (World.block_lt_of_cell? w a hu)

theorem wp_region_spread {P : Program} {id : Nat} {Q : Exit → Act → World → Prop} {a : Act} {w : World} {l : List Oper} (hm : P.follows .mixedOrders = true) (hB : Region.lexB .any l.toArray = true)
    (h : wpQuiet P l.toArray (fun w' => ∃ m, w' = spread w m) (fun a' => ∀ w', (∃ m, w' = spread w m) → Q .normal a' w') l a) : (Code.region id l.toArray true).wp P Q a w :=
  wp_region_quiet (C := fun w' => ∃ m, w' = spread w m) hm hB ⟨⟨w.drawn + 1, #[]⟩, by simp [spread]⟩ (by simpa using h)
end Go.Proofs.YtogflfepkddbhaaDoor
namespace Go.Proofs.YtogflfepkddbhaaDoor
set_option linter.unusedVariables false
open Go.ChangeShapes Go.WideShapes Go.ChangeAt Go.RowKit Go.Sort Go.Lib

theorem holds_zero0 (w : World) (T : TypeId) (nd : Nat) (hs : nd ≤ 24) : Holds (fun (b : UInt8) => Value.int .u8 (b.toNat : Int)) (w.alloc (.cells zeros24 T)) w.heap.size 0 (Array.replicate nd (0 : UInt8)) := fun j hj => by
  have hj' : j < nd := by simpa using hj
  refine ⟨?_, World.frozen?_alloc_new _ _ _ _⟩
  rw [World.cell?_alloc_new, zeros24_at _ (by omega), getElem!_pos _ j hj]
  simp
theorem fin_pos0 (w : World) (o : Obj) (dk : Array UInt8) (k : Nat) : ∃ os, (putRow (fun (b : UInt8) => Value.int .u8 (b.toNat : Int)) (w.alloc o) w.heap.size 0 dk).drewN k = grow (w.drewN k) os := by
  rw [alloc_eq_grow]
  obtain ⟨os', _, e⟩ := putRow_grow_new (fun (b : UInt8) => Value.int .u8 (b.toNat : Int)) w #[o] w.heap.size 0 dk (Nat.le_refl _)
  exact ⟨os', by rw [e]; rfl⟩

end Go.Proofs.YtogflfepkddbhaaDoor
namespace Go.Proofs.YtogflfepkddbhaaDoor
set_option linter.unusedVariables false
open Go.ChangeShapes Go.WideShapes Go.ChangeAt Go.RowKit

/-- The number of two words. -/
def val (hi lo : Nat) : Nat := hi * 18446744073709551616 + lo
/-- A word. -/
def Wd (a : Nat) : Prop := a < 18446744073709551616
/-- How a stands to b. -/
def cmpN (a b : Nat) : Int := if a < b then -1 else if b < a then 1 else 0

/-- A word that came in. -/
theorem u64_nat {z : Int} (h : (Lit.int .u64 z).wf = true) : ∃ a : Nat, z = a ∧ Wd a := by
  have hb := bounds_u64 h
  refine ⟨z.toNat, (Int.toNat_of_nonneg hb.1).symm, ?_⟩
  have h2 : z < 18446744073709551616 := by omega
  exact (Int.toNat_lt hb.1).2 h2

theorem cmpN_lt {a b : Nat} (h : a < b) : cmpN a b = -1 := if_pos h
theorem cmpN_gt {a b : Nat} (h : b < a) : cmpN a b = 1 := by unfold cmpN; rw [if_neg (by omega), if_pos h]
theorem cmpN_eq {a b : Nat} (h : a = b) : cmpN a b = 0 := by unfold cmpN; rw [if_neg (by omega), if_neg (by omega)]
theorem mulHi {a b : Nat} (ha : Wd a) (hb : Wd b) : a * b / 18446744073709551616 ≤ 18446744073709551614 := by
  unfold Wd at *
  have h1 : a * b ≤ 18446744073709551615 * 18446744073709551615 := Nat.mul_le_mul (by omega) (by omega)
  omega
end Go.Proofs.YtogflfepkddbhaaDoor
namespace Go.Proofs.YtogflfepkddbhaaDoor.Kn
set_option linter.unusedVariables false
open Go

theorem parts {a b c q : Nat} : q * (a * c + b) = q * a * c + q * b := by rw [Nat.mul_add, Nat.mul_assoc]

/-- The guess is too great. -/
theorem gt {yn1 yn0 u d q r : Nat} (hr : q * yn1 + r = u) (hd : d < 4294967296) (hu : u < yn1 * 4294967296 + yn0)
    (h : 4294967296 ≤ q ∨ 4294967296 * r + d < q * yn0) : (u * 4294967296 + d) / (yn1 * 4294967296 + yn0) < q := by
  have hy : 0 < yn1 * 4294967296 + yn0 := by omega
  rw [Nat.div_lt_iff_lt_mul hy]
  rcases h with h | h
  · have h1 : u * 4294967296 + d < (yn1 * 4294967296 + yn0) * 4294967296 := by omega
    have h2 : (yn1 * 4294967296 + yn0) * 4294967296 ≤ (yn1 * 4294967296 + yn0) * q := Nat.mul_le_mul_left _ h
    rw [Nat.mul_comm q]
    omega
  · rw [parts]
    omega

/-- The guess is the digit. -/
theorem eq {yn1 yn0 u d q r : Nat} (hr : q * yn1 + r = u) (hd : d < 4294967296) (hu : u < yn1 * 4294967296 + yn0)
    (hq : (u * 4294967296 + d) / (yn1 * 4294967296 + yn0) ≤ q) (h : q * yn0 ≤ 4294967296 * r + d) : (u * 4294967296 + d) / (yn1 * 4294967296 + yn0) = q := by
  have hy : 0 < yn1 * 4294967296 + yn0 := by omega
  refine Nat.le_antisymm hq ?_
  rw [Nat.le_div_iff_mul_le hy, parts]
  omega

/-- What is left has passed the digit's size: the guess is the digit. -/
theorem eq_break {yn1 yn0 u d q r : Nat} (hr : q * yn1 + r = u) (hd : d < 4294967296) (hu : u < yn1 * 4294967296 + yn0) (h0 : yn0 < 4294967296)
    (hq : (u * 4294967296 + d) / (yn1 * 4294967296 + yn0) ≤ q) (h : 4294967296 ≤ r) : (u * 4294967296 + d) / (yn1 * 4294967296 + yn0) = q := by
  refine eq hr hd hu hq ?_
  have h1 : q * yn1 < 4294967296 * yn1 := by omega
  have h2 : q < 4294967296 := Nat.lt_of_mul_lt_mul_right h1
  have h3 : q * yn0 ≤ 4294967295 * 4294967295 := Nat.mul_le_mul (by omega) (by omega)
  omega

/-- The first guess is no less than the digit. -/
theorem first {yn1 yn0 u d : Nat} (h1 : 1 ≤ yn1) (hd : d < 4294967296) : (u * 4294967296 + d) / (yn1 * 4294967296 + yn0) ≤ u / yn1 := by
  have hy : 0 < yn1 * 4294967296 + yn0 := by omega
  have hlt : u < (u / yn1 + 1) * yn1 := by rw [← Nat.div_lt_iff_lt_mul h1]; omega
  have : (u * 4294967296 + d) / (yn1 * 4294967296 + yn0) < u / yn1 + 1 := by
    rw [Nat.div_lt_iff_lt_mul hy, parts]
    have : u + 1 ≤ (u / yn1 + 1) * yn1 := hlt
    omega
  omega

/-- From both digits to the quotient and the rest. -/
theorem whole {n y S Y Q1 R1 Q0 R0 t l : Nat} (hS : 0 < S) (hY : Y = y * S) (hn : n * S = t * 4294967296 + l)
    (h1 : t = Q1 * Y + R1) (h0 : R1 * 4294967296 + l = Q0 * Y + R0) (hR : R0 < Y) :
    n / y = Q1 * 4294967296 + Q0 ∧ n % y * S = R0 := by
  have e : n * S = (Q1 * 4294967296 + Q0) * Y + R0 := by
    rw [hn, h1, Nat.add_mul, Nat.add_mul, Nat.mul_right_comm]
    omega
  constructor
  · rw [← Nat.mul_div_mul_right n y hS, ← hY, e, Nat.mul_comm (_ + _) Y, Nat.mul_add_div (by omega), Nat.div_eq_of_lt hR, Nat.add_zero]
  · rw [← Nat.mul_mod_mul_right, ← hY, e, Nat.mul_comm (_ + _) Y, Nat.mul_add_mod, Nat.mod_eq_of_lt hR]

/-- The higher word shifted, with what comes in from the lower one. -/
theorem shifted {hi lo s : Nat} (hs : s ≤ 63) (hl : lo < 18446744073709551616) : (hi * 2 ^ s) ||| (lo / 2 ^ (64 - s)) = hi * 2 ^ s + lo / 2 ^ (64 - s) := by
  have hb : lo / 2 ^ (64 - s) < 2 ^ s := by
    rw [Nat.div_lt_iff_lt_mul (Nat.two_pow_pos _), ← Nat.pow_add, show s + (64 - s) = 64 by omega]
    exact hl
  rw [Nat.mul_comm, Nat.two_pow_add_eq_or_of_lt hb]

theorem split {hi lo s : Nat} (hs : s ≤ 63) (hl : lo < 18446744073709551616) : (hi * 18446744073709551616 + lo) * 2 ^ s = (hi * 2 ^ s + lo / 2 ^ (64 - s)) * 18446744073709551616 + lo * 2 ^ s % 18446744073709551616 := by
  have e : (18446744073709551616 : Nat) = 2 ^ (64 - s) * 2 ^ s := by rw [← Nat.pow_add, show 64 - s + s = 64 by omega]
  have h1 : lo * 2 ^ s % 18446744073709551616 = lo % 2 ^ (64 - s) * 2 ^ s := by rw [e, Nat.mul_mod_mul_right]
  have h2 := Nat.div_add_mod lo (2 ^ (64 - s))
  rw [h1, Nat.add_mul, Nat.add_mul, Nat.add_assoc, Nat.mul_right_comm]
  congr 1
  conv => lhs; rw [← h2, Nat.add_mul]
  congr 1
  rw [Nat.mul_comm (2 ^ (64 - s)), Nat.mul_assoc, ← e]

/-- The rest of one step, reckoned with words that go round. -/
theorem rest_wrap {u d q Y R : Nat} (h : u * 4294967296 + d = q * Y + R) (hR : R < 18446744073709551616) :
    IntKind.u64.wrap (IntKind.u64.wrap (IntKind.u64.wrap ((u : Int) * 4294967296) + (d : Int)) - IntKind.u64.wrap ((q : Int) * (Y : Int))) = (R : Int) := by
  simp only [IntKind.wrap_u64]
  obtain ⟨p, hp⟩ : ∃ p : Nat, p = q * Y := ⟨_, rfl⟩
  have hc : (q : Int) * (Y : Int) = (p : Int) := by rw [hp]; simp
  rw [hc]
  rw [← hp] at h
  omega
end Go.Proofs.YtogflfepkddbhaaDoor.Kn
namespace Go.Proofs.YtogflfepkddbhaaDoor
set_option linter.unusedVariables false
open Go.ChangeShapes Go.WideShapes Go.ChangeAt Go.RowKit

/-- One digit's guess, lowered till it is the digit: the relation of both loops. -/
def DigRel (u yn1 Q : Nat) (q r : Value) : Prop := ∃ a b : Nat, q = .int .u64 a ∧ r = .int .u64 b ∧ a * yn1 + b = u ∧ Q ≤ a ∧ b < 4294967296

/-- The divisor's leading noughts, struck by a shift. -/
theorem norm {y : Nat} (h1 : 1 ≤ y) (h : Wd y) : ∃ s : Nat, s ≤ 63 ∧ 64 - (Lib.bitLen y : Int) = (s : Int) ∧ 9223372036854775808 ≤ y * 2 ^ s ∧ y * 2 ^ s < 18446744073709551616 := by
  obtain ⟨b1, b2, b3⟩ := Lib.bitLenAux_bounds 64 y h (by omega)
  have hb : Lib.bitLenAux 64 y ≤ 64 := by
    rcases Nat.lt_or_ge 64 (Lib.bitLenAux 64 y) with g | g
    · exfalso
      have := Nat.pow_le_pow_right (n := 2) (by omega) (show 64 ≤ Lib.bitLenAux 64 y - 1 by omega)
      unfold Wd at h
      omega
    · exact g
  obtain ⟨k, hk⟩ : ∃ k, k = Lib.bitLenAux 64 y := ⟨_, rfl⟩
  have hbl : Lib.bitLen y = k := by rw [hk]; rfl
  rw [← hk] at b1 b2 b3 hb
  refine ⟨64 - k, by omega, by rw [hbl]; omega, ?_, ?_⟩
  · have h2 : 2 ^ (k - 1) * 2 ^ (64 - k) ≤ y * 2 ^ (64 - k) := Nat.mul_le_mul_right _ b2
    rw [← Nat.pow_add, show k - 1 + (64 - k) = 63 by omega] at h2
    exact h2
  · have h2 : y * 2 ^ (64 - k) < 2 ^ k * 2 ^ (64 - k) := Nat.mul_lt_mul_of_pos_right b3 (Nat.two_pow_pos _)
    rw [← Nat.pow_add, show k + (64 - k) = 64 by omega] at h2
    exact h2

end Go.Proofs.YtogflfepkddbhaaDoor
namespace Go.Proofs.YtogflfepkddbhaaDoor
set_option linter.unusedVariables false
open Go.ChangeShapes Go.WideShapes Go.ChangeAt Go.RowKit

theorem divVal {ah al b : Nat} (hb : 1 ≤ b) (h1 : Wd ah) (h2 : Wd al) (h3 : Wd b) :
    val ah al / b = val (ah / b) (val (ah % b) al / b) ∧ val ah al % b = val (ah % b) al % b ∧ val (ah % b) al / b < 18446744073709551616 := by
  have hlt : ah % b < b := Nat.mod_lt _ hb
  have e : val ah al = b * (ah / b * 18446744073709551616) + val (ah % b) al := by
    unfold val
    have := Nat.div_add_mod ah b
    conv => lhs; rw [← this, Nat.add_mul, Nat.mul_assoc]
    omega
  have hq : val (ah % b) al / b < 18446744073709551616 := by
    rw [Nat.div_lt_iff_lt_mul hb]
    unfold val Wd at *
    have : (ah % b + 1) * 18446744073709551616 ≤ b * 18446744073709551616 := Nat.mul_le_mul_right _ hlt
    omega
  refine ⟨?_, ?_, hq⟩
  · rw [e, Nat.mul_add_div hb]
    rfl
  · rw [e, Nat.mul_add_mod]

/-- A number below ten to the 19th, in nineteen places. -/
def pad19 (r : Nat) : List UInt8 := List.replicate (19 - Lib.nDigits r) 48 ++ Lib.decDigits r
theorem nDig_le {r k : Nat} (hk : 1 ≤ k) (h : r < 10 ^ k) : Lib.nDigits r ≤ k := by
  induction k generalizing r with
  | zero => omega
  | succ k ih =>
    by_cases h10 : r < 10
    · rw [Lib.nDigits_small h10]; omega
    · rw [Lib.nDigits_big h10]
      have hk1 : 1 ≤ k := by
        rcases Nat.eq_zero_or_pos k with rfl | g
        · simp at h; omega
        · exact g
      have := ih (r := r / 10) hk1 (by rw [Nat.pow_succ] at h; omega)
      omega
theorem dg_mod {u j k : Nat} (h : j < k) : Lib.dg (u % 10 ^ k) j = Lib.dg u j := by
  unfold Lib.dg
  have : u % 10 ^ k / 10 ^ j % 10 = u / 10 ^ j % 10 := by
    obtain ⟨d, rfl⟩ : ∃ d, k = j + 1 + d := ⟨k - (j + 1), by omega⟩
    rw [Nat.pow_add, Nat.pow_succ, Nat.mul_assoc, Nat.mod_mul_right_div_self, Nat.mod_mul_right_mod]
  rw [this]
theorem dg_small {u j : Nat} (h : u < 10 ^ j) : Lib.dg u j = 48 := by
  unfold Lib.dg
  rw [Nat.div_eq_of_lt h]
  rfl
theorem dg_div {u k j : Nat} : Lib.dg (u / 10 ^ k) j = Lib.dg u (k + j) := by
  unfold Lib.dg
  rw [Nat.div_div_eq_div_mul, ← Nat.pow_add]
theorem pad19_eq (r : Nat) (h : r < 10 ^ 19) : pad19 r = (List.range 19).map fun t => Lib.dg r (18 - t) := by
  have hn := nDig_le (by omega) h
  have h1 := Lib.nDigits_pos r
  unfold pad19
  refine List.ext_getElem (by simp [Lib.decDigits_length]; omega) fun i hi1 hi2 => ?_
  simp at hi2
  rw [List.getElem_append]
  split
  · rename_i hlt
    simp at hlt ⊢
    have := Nat.pow_le_pow_right (n := 10) (by omega) (show Lib.nDigits r ≤ 18 - i by omega)
    rw [dg_small (Nat.lt_of_lt_of_le (Lib.lt_pow_nDigits r) this)]
  · rename_i hge
    simp at hge
    have he := Lib.decDigits_eq r
    simp only [he, List.getElem_map, List.getElem_range, List.length_replicate]
    congr 1
    omega
/-- The digits of a number are those of its higher part, then its lower nineteen. -/
theorem digits_split (n : Nat) (h : 10 ^ 19 ≤ n) : Lib.decDigits n = Lib.decDigits (n / 10 ^ 19) ++ pad19 (n % 10 ^ 19) := by
  have hlt : n % 10 ^ 19 < 10 ^ 19 := Nat.mod_lt _ (by omega)
  have hnd : ∀ k n : Nat, 10 ^ k ≤ n → Lib.nDigits n = Lib.nDigits (n / 10 ^ k) + k := by
    intro k
    induction k with
    | zero => intro n _; simp
    | succ k ih =>
      intro n hn
      have h10 : ¬ n < 10 := by
        have := Nat.one_le_two_pow (n := k)
        have h1 : 10 ^ 1 ≤ 10 ^ (k + 1) := Nat.pow_le_pow_right (by omega) (by omega)
        omega
      rw [Lib.nDigits_big h10, ih (n / 10) (by rw [Nat.pow_succ] at hn; omega), Nat.div_div_eq_div_mul, Nat.pow_succ, Nat.mul_comm 10]
      omega
  have hN := hnd 19 n h
  rw [pad19_eq _ hlt, Lib.decDigits_eq n, Lib.decDigits_eq (n / 10 ^ 19), hN]
  generalize Lib.nDigits (n / 10 ^ 19) = m
  refine List.ext_getElem (by simp) fun i hi1 hi2 => ?_
  simp at hi1 hi2
  rw [List.getElem_append]
  split
  · rename_i hl
    simp at hl
    simp only [List.getElem_map, List.getElem_range]
    rw [dg_div]
    congr 1
    omega
  · rename_i hl
    simp at hl
    simp only [List.getElem_map, List.getElem_range, List.length_map, List.length_range]
    rw [dg_mod (by omega)]
    congr 1
    omega

theorem ba_append (a b : List UInt8) : (⟨a.toArray⟩ : ByteArray) ++ ⟨b.toArray⟩ = ⟨(a ++ b).toArray⟩ := by
  apply ByteArray.ext
  simp
/-- What holds at the head of Text's loop: what is left in the cells, what stands in the tail. -/
def TextRel (B N : Nat) (W : World) (k : Nat) (tail : Value) (wr : World) : Prop :=
  ∃ (h l : Nat) (T : List UInt8), Wd h ∧ Wd l ∧ h ≤ k ∧ Lib.decDigits N = Lib.decDigits (val h l) ++ T ∧ T.length ≤ 1000 ∧ tail = .string ⟨T.toArray⟩ ∧
    wr.cell? ⟨B, 0, none⟩ = some (.int .u64 h) ∧ wr.cell? ⟨B, 1, none⟩ = some (.int .u64 l) ∧ wr.frozen? ⟨B, 0, none⟩ = false ∧ wr.frozen? ⟨B, 1, none⟩ = false ∧ B < wr.heap.size ∧ Gr W wr

end Go.Proofs.YtogflfepkddbhaaDoor
namespace Go.Proofs.YtogflfepkddbhaaDoor
set_option linter.unusedVariables false
open Go.ChangeShapes Go.WideShapes Go.ChangeAt Go.RowKit

theorem val_words (n : Nat) : val (n / 18446744073709551616) (n % 18446744073709551616) = n := by
  unfold val
  rw [Nat.mul_comm]
  exact Nat.div_add_mod n 18446744073709551616
theorem wd_mod (n : Nat) : Wd (n % 18446744073709551616) := Nat.mod_lt _ (by omega)
end Go.Proofs.YtogflfepkddbhaaDoor
namespace Go.Proofs.YtogflfepkddbhaaDoor
set_option linter.unusedVariables false
open Go.ChangeShapes Go.WideShapes Go.ChangeAt Go.RowKit

theorem cmp_neg (a b : Nat) : cmpN a b = -cmpN b a := by unfold cmpN; split <;> split <;> omega
theorem cmp_lt0 (a b : Nat) : decide (cmpN a b < 0) = decide (a < b) := by
  unfold cmpN; split
  · rename_i h; simp [h]
  · rename_i h; split <;> simp [h]

theorem val_lt {a b : Nat} (ha : Wd a) (hb : Wd b) : val a b < 340282366920938463463374607431768211456 := by
  unfold val
  have h1 : a * 18446744073709551616 ≤ 18446744073709551615 * 18446744073709551616 := Nat.mul_le_mul_right _ (Nat.le_sub_one_of_lt ha)
  have h2 : b < 18446744073709551616 := hb
  omega
end Go.Proofs.YtogflfepkddbhaaDoor
