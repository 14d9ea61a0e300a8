/- numbers as bytes: plain facts; append onto a row of the call's own: where the new row lies; enc: numbers laid; enc: the document's Varint, and numbers with a sign; enc: numbers with a sign; enc: reading a number of bytes: plain facts; enc: the document's Unvarint; enc: Unvarint; enc: reading numbers with a sign; bytes that are read: rows of them, and whether two are alike; enc: objects laid; enc: objects laid: the loop over the points -/
import Derived.Test.YtogflfepkddbhaaDoorK
import Derived.Laws.AppendOwn
import Derived.OwnWalk
import Derived.Laws.OwnMore
import Derived.Deep.RegionLaw
import Derived.Laws.Bits64b
import Derived.ArgAppend
import Derived.Deep.LoopGhost
import Derived.Maps.AppendAt
import Derived.Deep.RegionWith
namespace Go.Proofs.YtogflfepkddbhaaDoor.Ec
set_option linter.unusedVariables false

/-- A number's groups of seven digits, the least first. -/
def vr (v : Nat) : List UInt8 := if h : v < 128 then [UInt8.ofNat v] else UInt8.ofNat (v % 128 + 128) :: vr (v / 128)
termination_by v
decreasing_by omega
theorem vr_small {v : Nat} (h : v < 128) : vr v = [UInt8.ofNat v] := by rw [vr, dif_pos h]
theorem vr_big {v : Nat} (h : ¬ v < 128) : vr v = UInt8.ofNat (v % 128 + 128) :: vr (v / 128) := by rw [vr, dif_neg h]
theorem vr_len : ∀ (k v : Nat), v < 128 ^ k → 1 ≤ k → 1 ≤ (vr v).length ∧ (vr v).length ≤ k := by
  intro k
  induction k with
  | zero => intro v _ h; omega
  | succ k ih =>
    intro v hv _
    by_cases h : v < 128
    · rw [vr_small h]; simp
    · rw [vr_big h]
      rw [Nat.pow_succ] at hv
      have hk : 1 ≤ k := by
        rcases Nat.eq_zero_or_pos k with h0 | h0
        · subst h0; simp at hv; omega
        · exact h0
      have := ih (v / 128) (by omega) hk
      simp; omega
theorem vr_len10 {v : Nat} (h : v < 18446744073709551616) : 1 ≤ (vr v).length ∧ (vr v).length ≤ 10 := vr_len 10 v (Nat.lt_of_lt_of_le h (by decide)) (by omega)
set_option maxRecDepth 100000 in
theorem byte_or (v : Nat) : v % 256 ||| 128 = v % 128 + 128 := by
  have h1 : v % 256 % 128 = v % 128 := by omega
  have key : ∀ x, x < 256 → x ||| 128 = x % 128 + 128 := by decide
  rw [key _ (by omega), h1]
set_option maxRecDepth 100000 in
theorem low_or (v : Nat) : v % 128 ||| 128 = v % 128 + 128 := by
  have key : ∀ x, x < 128 → x ||| 128 = x + 128 := by decide
  exact key _ (by omega)
theorem len_mono {n m : Nat} (h : n ≤ m) : (vr n).length ≤ (vr m).length := by
  induction m using Nat.strongRecOn generalizing n with
  | _ m ih =>
    by_cases hm : m < 128
    · rw [vr_small hm, vr_small (by omega)]; simp
    · rw [vr_big hm]
      by_cases hn : n < 128
      · rw [vr_small hn]; simp
      · rw [vr_big hn]
        have := ih (m / 128) (by omega) (n := n / 128) (by omega)
        simp; omega
theorem vr_inj {n m : Nat} (h : vr n = vr m) : n = m := by
  induction m using Nat.strongRecOn generalizing n with
  | _ m ih =>
    have tn : ∀ x, x < 256 → (UInt8.ofNat x).toNat = x := fun x hx => by rw [UInt8.toNat_ofNat']; omega
    by_cases hm : m < 128
    · by_cases hn : n < 128
      · rw [vr_small hm, vr_small hn] at h
        have := congrArg UInt8.toNat (List.cons.inj h).1
        rw [tn n (by omega), tn m (by omega)] at this
        exact this
      · rw [vr_small hm, vr_big hn] at h
        have := congrArg UInt8.toNat (List.cons.inj h).1
        rw [tn _ (by omega), tn m (by omega)] at this
        omega
    · by_cases hn : n < 128
      · rw [vr_big hm, vr_small hn] at h
        have := congrArg UInt8.toNat (List.cons.inj h).1
        rw [tn n (by omega), tn _ (by omega)] at this
        omega
      · rw [vr_big hm, vr_big hn] at h
        have h1 := congrArg UInt8.toNat (List.cons.inj h).1
        rw [tn _ (by omega), tn _ (by omega)] at h1
        have := ih (m / 128) (by omega) (List.cons.inj h).2
        omega
end Go.Proofs.YtogflfepkddbhaaDoor.Ec
namespace Go.Proofs.YtogflfepkddbhaaDoor
set_option linter.unusedVariables false
open Go.ChangeShapes Go.WideShapes Go.ChangeAt Go.RowKit

theorem gr_of_grown {w a b : World} {r : Option Nat} (h : Gr w a) (g : a.grownBy b r) (hr : ∀ k, r = some k → w.heap.size ≤ k) : Gr w b :=
  ⟨g.os.trans h.os, g.tape.trans h.tape, g.output.trans h.output, Nat.le_trans h.size g.size, fun k hk => (g.block k (Nat.lt_of_lt_of_le hk h.size) (fun e => by have := hr k e.symm; omega)).trans (h.block k hk)⟩
/-- Nothing of w is turned but the row of v; v' is that row, or a new one. -/
def Grown (w w' : World) (v v' : Value) : Prop := w.grownBy w' v.ownBlock ∧ ∀ k, v'.ownBlock = some k → v.ownBlock = some k ∨ w.heap.size ≤ k
theorem Grown.size {a b : World} {u v : Value} (h : Grown a b u v) : a.heap.size ≤ b.heap.size := h.1.size
theorem Grown.at {a b : World} {u v : Value} (h : Grown a b u v) : ∀ k, v.ownBlock = some k → u.ownBlock = some k ∨ a.heap.size ≤ k := h.2
theorem Grown.refl (w : World) (v : Value) : Grown w w v v := ⟨⟨rfl, rfl, rfl, Nat.le_refl _, fun _ _ _ => rfl⟩, fun k h => Or.inl h⟩
theorem Grown.trans {a b c : World} {u v x : Value} (h : Grown a b u v) (k : Grown b c v x) : Grown a c u x := by
  refine ⟨⟨k.1.os.trans h.1.os, k.1.tape.trans h.1.tape, k.1.output.trans h.1.output, Nat.le_trans h.1.size k.1.size, fun i hi hn => ?_⟩, fun i hi => ?_⟩
  · refine (k.1.block i (Nat.lt_of_lt_of_le hi h.1.size) fun e => ?_).trans (h.1.block i hi hn)
    rcases h.2 i e.symm with h1 | h1
    · exact hn h1.symm
    · omega
  · rcases k.2 i hi with h1 | h1
    · exact h.2 i h1
    · exact Or.inr (Nat.le_trans h.1.size h1)
theorem Grown.of_gr {a b : World} (v : Value) (g : Gr a b) : Grown a b v v :=
  ⟨⟨g.os, g.tape, g.output, g.size, fun k hk _ => g.block k hk⟩, fun k h => Or.inl h⟩
theorem Grown.alloc {a b : World} {u v : Value} (h : Grown a b u v) (o : Obj) : Grown a (b.alloc o) u v :=
  h.trans ⟨World.grownBy_alloc b o _, fun k h => Or.inl h⟩
theorem Grown.gr {a b w0 : World} {u v : Value} (h : Grown a b u v) (g : Gr w0 a) (hr : ∀ k, u.ownBlock = some k → w0.heap.size ≤ k) : Gr w0 b := gr_of_grown g h.1 hr
theorem Grown.nil {a b : World} {v : Value} (h : Grown a b (.slice none 0 0) v) : Gr a b := gr_of_grown (Below.refl _ _) h.1 (fun k e => by cases e)
theorem Grown.block {a b : World} {u v : Value} (h : Grown a b u v) {p : Nat} {o : Obj} (hc : a.heap[p]? = some o) (hn : ∀ k, u.ownBlock = some k → k ≠ p) : b.heap[p]? = some o :=
  (h.1.block p (Array.getElem?_eq_some_iff.1 hc).1 (fun e => by cases hu : u.ownBlock with
    | none => rw [hu] at e; cases e
    | some k => rw [hu] at e; exact hn k hu (Option.some.inj e).symm)).trans hc
/-- A row with something in it. -/
theorem row_form {w : World} {base n size : Nat} {e : TypeId} {v : Value} {xs : List Value} (h : w.ownsRow base e size v n xs) (h0 : 0 < n) : ∃ g cap, v = .slice (some ⟨g, 0, none⟩) n cap ∧ base ≤ g ∧ g < w.heap.size ∧ n ≤ cap ∧ (cap : Int) ≤ 9223372036854775807 := by
  rcases h.2 with ⟨-, h0'⟩ | ⟨g, cap, cur, rfl, hb, hg, hn, hc, hs, ht⟩
  · omega
  · exact ⟨g, cap, rfl, hb, (Array.getElem?_eq_some_iff.1 hg).1, hn, by unfold maxLen at hc; omega⟩
/-- A cell that lies in another block stays. -/
theorem Grown.cell {a b : World} {u v : Value} (h : Grown a b u v) {p : Addr} {x : Value} (hc : a.cell? p = some x) (hn : ∀ k, u.ownBlock = some k → k ≠ p.block) : b.cell? p = some x :=
  h.1.cell hc (fun e => by cases hu : u.ownBlock with
    | none => rw [hu] at e; cases e
    | some k => rw [hu] at e; exact hn k hu (Option.some.inj e).symm)

section
variable {P : Program} (w : World)
theorem append_place (base : Nat) (t ty e : TypeId) (i : TypeInfo) (z : Value) (size bytes : Nat) (ht : P.underlying t = some (.slice e)) (hi : P.info? e = some i) (hz : i.zero = some z)
    (hsize : i.size = size) (hby : i.bytes = bytes) (v : Value) (n : Nat) (xs : List Value) (hown : w.ownsRow base e size v n xs)
    (a : Addr) (m c : Nat) (news : List Value) (hl : news.length = m * size) (hnews : ∀ j u, news[j]? = some u → w.cell? (a.add j) = some u) (h1 : ∀ u ∈ news, u.oneCell' = true)
    (h63 : n + m ≤ maxLen) (hbytes : (n + m) * bytes ≤ 140737488355328) {v' : Value} {w' : World} (hr : (Builtin.append_ #[t, t] ty #[v, .slice (some a) m c]).run P w = .ok v' w') :
    ∀ k, v'.ownBlock = some k → v.ownBlock = some k ∨ w.heap.size ≤ k := by
  subst hsize hby
  have hsmall : n + m ≤ 9223372036854775807 := by simp only [maxLen] at h63; omega
  rcases hown.2 with ⟨rfl, rfl⟩ | ⟨g, cap, cur, rfl, hbg, hg, hnc, hcm, hcs, htake⟩
  · by_cases hm : m = 0
    · subst hm
      have hn : news = [] := List.eq_nil_of_length_eq_zero (by simpa using hl)
      subst hn
      have e0 : (Builtin.append_ #[t, t] ty #[.slice none 0 0, .slice (some a) 0 c]).run P w = .ok (.slice none 0 0) w := by
        simp [Builtin.append_, run_underlying ht, sizeOf, typeInfo, hi, Builtin.lenOf, Builtin.firstCells, loadCells, loadCellsFrom]
      rw [e0] at hr
      cases hr
      intro k hk
      cases hk
    · rw [run_append_nil (P := P) w t ty e i z ht hi hz a m c news hl hnews (by omega) (by omega) (by have hb := hbytes; simp only [Nat.zero_add] at hb; omega)] at hr
      cases hr
      intro k hk
      simp [Value.ownBlock] at hk
      omega
  · by_cases hroom : n + m ≤ cap
    · have hfit : n * i.size + news.length ≤ cur.size := by rw [hl, hcs, ← Nat.add_mul]; exact Nat.mul_le_mul_right _ hroom
      rw [run_append_room (P := P) w t ty e i ht hi g n cap cur hg a m c news hl hnews h1 hroom hfit] at hr
      cases hr
      intro k hk
      exact Or.inl hk
    · rw [run_append_grow (P := P) w t ty e i z ht hi hz ⟨g, 0, none⟩ n cap xs hown.1 (hown.cells (g := g) rfl) a m c news hl hnews (by omega) (by omega) (growslice_fits (by omega) hbytes)] at hr
      cases hr
      intro k hk
      simp [Value.ownBlock] at hk
      omega
theorem wpList_append_own2 {ops : Array Oper} {rest : List Oper} {o : Oper} {a : Act} {Q : Exit → Act → World → Prop} (hgd : o.guard = none) (s x : Operand) (t : TypeId)
    (ho : o.op = .call { callee := .builtin .append, args := #[s, x], argTypes := #[t, t] })
    (base : Nat) (e : TypeId) (i : TypeInfo) (z : Value) (size bytes : Nat) (ht : P.underlying t = some (.slice e)) (hi : P.info? e = some i) (hz : i.zero = some z)
    (hsize : i.size = size) (hby : i.bytes = bytes) (hzs : z.cells.size = size) (hsz : 0 < size)
    (v : Value) (n : Nat) (xs : List Value) (hs : a.eval s = v) (hown : w.ownsRow base e size v n xs)
    (ad : Addr) (m c : Nat) (news : List Value) (hx : a.eval x = .slice (some ad) m c) (hl : news.length = m * size) (hnews : ∀ j u, news[j]? = some u → w.cell? (ad.add j) = some u) (h1 : ∀ u ∈ news, u.oneCell' = true)
    (h63 : n + m ≤ maxLen) (hbytes : (n + m) * bytes ≤ 140737488355328) (hbase : base ≤ w.heap.size)
    (h : ∀ v' w', w'.ownsRow base e size v' (n + m) (xs ++ news) → Grown w w' v v' → wpList P ops Q rest (a.put o.dst v') w') : wpList P ops Q (o :: rest) a w := by
  refine wpList_plain hgd fun K hK => ?_
  obtain ⟨v', w', hr, h2, h3, h4⟩ := run_append_own (P := P) w base t o.type e i z size bytes ht hi hz hsize hby hzs hsz v n xs hown ad m c news hl hnews h1 h63 hbytes hbase
  have h5 := append_place (P := P) w base t o.type e i z size bytes ht hi hz hsize hby v n xs hown ad m c news hl hnews h1 h63 hbytes hr
  unfold Oper.wp execOp
  simp only [ho, resolve, invoke, builtin, Sem.run_bind, Sem.run_pure, Result.andThen_ok, List.map_toArray, List.map_cons, List.map_nil, hs, hx, hr]
  exact hK _ _ (h v' w' h2 ⟨h3, h5⟩)
/-- The same, as one step of a region that draws. -/
theorem step_append_own2 {w : World} {ops : Array Oper} {o : Oper} {a : Act} {K : Act → World → Prop} {Q : Exit → Act → World → Prop} {E : Prop} (hg : o.guard = none) (s x : Operand) (t : TypeId)
    (ho : o.op = .call { callee := .builtin .append, args := #[s, x], argTypes := #[t, t] })
    (base : Nat) (e : TypeId) (i : TypeInfo) (z : Value) (size bytes : Nat) (ht : P.underlying t = some (.slice e)) (hi : P.info? e = some i) (hz : i.zero = some z)
    (hsize : i.size = size) (hby : i.bytes = bytes) (hzs : z.cells.size = size) (hsz : 0 < size)
    (v : Value) (n : Nat) (xs : List Value) (hs : a.eval s = v) (hown : w.ownsRow base e size v n xs)
    (ad : Addr) (m c : Nat) (news : List Value) (hx : a.eval x = .slice (some ad) m c) (hl : news.length = m * size) (hnews : ∀ j u, news[j]? = some u → w.cell? (ad.add j) = some u) (h1 : ∀ u ∈ news, u.oneCell' = true)
    (h63 : n + m ≤ maxLen) (hbytes : (n + m) * bytes ≤ 140737488355328) (hbase : base ≤ w.heap.size)
    (h : ∀ v' w', w'.ownsRow base e size v' (n + m) (xs ++ news) → Grown w w' v v' → K (a.put o.dst v') w') : if Region.wanted o (yielded ops a.tmps) = true then Oper.wp P o a w K Q else E := by
  have hw : Region.wanted o (yielded ops a.tmps) = true := by simp [Region.wanted, hg]
  rw [if_pos hw]
  obtain ⟨v', w', hr, h2, h3, h4⟩ := run_append_own (P := P) w base t o.type e i z size bytes ht hi hz hsize hby hzs hsz v n xs hown ad m c news hl hnews h1 h63 hbytes hbase
  have h5 := append_place (P := P) w base t o.type e i z size bytes ht hi hz hsize hby v n xs hown ad m c news hl hnews h1 h63 hbytes hr
  unfold Oper.wp execOp
  simp only [ho, resolve, invoke, builtin, Sem.run_bind, Sem.run_pure, Result.andThen_ok, List.map_toArray, List.map_cons, List.map_nil, hs, hx, hr]
  exact h v' w' h2 ⟨h3, h5⟩
end
/-- The cells of a new block. -/
theorem cells_new (w : World) (cs : Array Value) (e : TypeId) (xs : List Value) (hx : cs.toList = xs) : ∀ j u, xs[j]? = some u → (w.alloc (.cells cs e)).cell? ((⟨w.heap.size, 0, none⟩ : Addr).add j) = some u := by
  intro j u hu
  subst hx
  have hadd : (⟨w.heap.size, 0, none⟩ : Addr).add j = ⟨w.heap.size, j, none⟩ := by unfold Addr.add; split <;> simp_all
  rw [hadd, cell_of_row _ w.heap.size j cs e (0, 0) (heap_alloc_new w _)]
  simpa using hu
theorem rowOwn_gr {a b : World} {base e size n : Nat} {v : Value} {xs : List Value} (h : a.ownsRow base e size v n xs) (g : Gr a b) : b.ownsRow base e size v n xs :=
  h.kept (row := none) ⟨g.os, g.tape, g.output, g.size, fun k hk _ => g.block k hk⟩ (by
    rcases hh : v.ownBlock with _ | k
    · exact Or.inl rfl
    · exact Or.inr (by simp))
end Go.Proofs.YtogflfepkddbhaaDoor
namespace Go.Proofs.YtogflfepkddbhaaDoor
set_option linter.unusedVariables false
open Go.ChangeShapes Go.WideShapes Go.ChangeAt Go.RowKit


/-- A byte, as it lies. -/
def bv (c : UInt8) : Value := .int .u8 (c.toNat : Int)
/-- A row of bytes that the call owns. -/
def Own (w : World) (base : Nat) (v : Value) (L : List UInt8) : Prop := w.ownsRow base 5 1 v L.length (L.map bv)
theorem own_row {w : World} {base : Nat} {v : Value} {L : List UInt8} (h : Own w base v L) (k : Nat) (hk : v.ownBlock = some k) : base ≤ k := by
  rcases h.2 with ⟨rfl, -⟩ | ⟨g, cap, cur, rfl, hb, -⟩
  · cases hk
  · simp [Value.ownBlock] at hk; omega
theorem bv_one (L : List UInt8) : ∀ u ∈ L.map bv, u.oneCell' = true := by
  intro u hu
  obtain ⟨x, -, rfl⟩ := List.mem_map.1 hu
  rfl
theorem or128 (v : Nat) (hv : Wd v) : bits BinOp.or IntKind.u8 (((v % 256 : Nat) : Int)) 128 = ((v % 128 + 128 : Nat) : Int) := by
  have e := (bits_nat .u8 8 (by decide) (fun n h0 h1 => wraps_u8 n h0 h1) (v % 256) 128 (by omega) (by omega)).2
  rw [Ec.byte_or] at e
  exact e
theorem wraps_u8' (y : Nat) : IntKind.u8.wrap (y : Int) = ((y % 256 : Nat) : Int) := by
  show ((y : Int)) % 256 = _
  omega
theorem byte_eq {x : Nat} (h : x < 256) : bv (UInt8.ofNat x) = .int .u8 (x : Int) := by
  unfold bv
  rw [UInt8.toNat_ofNat']
  congr 1
  omega
theorem own_nil (W : World) (base : Nat) : Own W base (.slice none 0 0) [] := World.ownsRow_nil _ _ _ _
end Go.Proofs.YtogflfepkddbhaaDoor
namespace Go.Proofs.YtogflfepkddbhaaDoor
set_option linter.unusedVariables false
open Go.ChangeShapes Go.WideShapes Go.ChangeAt Go.RowKit

theorem and127 (v : Nat) (hv : Wd v) : bits BinOp.and IntKind.u64 (v : Int) 127 = ((v % 128 : Nat) : Int) := by
  have e := (bits_nat .u64 64 (by decide) (fun n h0 h1 => by rw [IntKind.wrap_u64]; omega) v 127 (by unfold Wd at hv; omega) (by omega)).1
  rw [show v &&& 127 = v % 128 from Nat.and_two_pow_sub_one_eq_mod v 7] at e
  exact e
theorem or128w (v : Nat) : bits BinOp.or IntKind.u64 ((v % 128 : Nat) : Int) 128 = ((v % 128 + 128 : Nat) : Int) := by
  have e := (bits_nat .u64 64 (by decide) (fun n h0 h1 => by rw [IntKind.wrap_u64]; omega) (v % 128) 128 (by omega) (by omega)).2
  rw [Ec.low_or] at e
  exact e
end Go.Proofs.YtogflfepkddbhaaDoor
namespace Go.Proofs.YtogflfepkddbhaaDoor
set_option linter.unusedVariables false
open Go.ChangeShapes Go.WideShapes Go.ChangeAt Go.RowKit

/-- A number with a sign, as one without. -/
def zz (n : Int) : Nat := if 0 ≤ n then (2 * n).toNat else (-2 * n - 1).toNat
theorem zz_wd {n : Int} (h0 : -9223372036854775808 ≤ n) (h1 : n < 9223372036854775808) : Wd (zz n) := by
  unfold zz Wd; split <;> omega
theorem xor0 (a : Nat) (ha : Wd a) : bits BinOp.xor IntKind.u64 (a : Int) 0 = (a : Int) := by
  unfold Wd at ha
  have h1 : (BitVec.ofInt 64 (a : Int)).toNat = a := by
    rw [BitVec.ofInt_natCast, BitVec.toNat_ofNat]; exact Nat.mod_eq_of_lt (by omega)
  show IntKind.u64.wrap ((BitVec.ofInt 64 (a : Int) ^^^ BitVec.ofInt 64 (0 : Int)).toNat : Int) = _
  rw [BitVec.toNat_xor, h1, show (BitVec.ofInt 64 (0 : Int)).toNat = 0 from rfl, Nat.xor_zero, IntKind.wrap_u64]
  omega
theorem xor1 (a : Nat) (ha : Wd a) : bits BinOp.xor IntKind.u64 (a : Int) 18446744073709551615 = ((18446744073709551615 - a : Nat) : Int) := by
  unfold Wd at ha
  show IntKind.u64.wrap ((BitVec.ofInt 64 (a : Int) ^^^ BitVec.ofInt 64 (18446744073709551615 : Int)).toNat : Int) = _
  rw [show BitVec.ofInt 64 (18446744073709551615 : Int) = BitVec.allOnes 64 from rfl, BitVec.xor_allOnes, BitVec.toNat_not, BitVec.ofInt_natCast, BitVec.toNat_ofNat, IntKind.wrap_u64]
  omega
end Go.Proofs.YtogflfepkddbhaaDoor
namespace Go.Proofs.YtogflfepkddbhaaDoor.Ec
set_option linter.unusedVariables false

/-- What the byte c at i adds to a number. -/
def stp (acc c i : Nat) : Nat := acc ||| ((c % 128) * 2 ^ (7 * i)) % 18446744073709551616
/-- The number that bytes (of length n, read by f) begin with, and how many they are, from the byte i: k bytes at most. -/
def uv (f : Nat → Nat) (n : Nat) : Nat → Nat → Nat → Nat × Nat
  | 0, _, _ => (0, 0)
  | k + 1, i, acc =>
    if i < n then
      if (i = 9 ∧ 1 < f i) ∨ (0 < i ∧ f i = 0) then (0, 0)
      else if f i < 128 then (stp acc (f i) i, i + 1)
      else uv f n k (i + 1) (stp acc (f i) i)
    else (0, 0)
theorem stp_wd {acc c i : Nat} (h : acc < 18446744073709551616) : stp acc c i < 18446744073709551616 := by
  unfold stp
  exact Nat.or_lt_two_pow (n := 64) (by omega) (Nat.mod_lt _ (by decide))
theorem uv_end (f : Nat → Nat) (n k i acc : Nat) (h : ¬ i < n) : uv f n k i acc = (0, 0) := by
  cases k with
  | zero => rfl
  | succ k => rw [uv, if_neg h]
theorem uv_bad (f : Nat → Nat) (n k i acc : Nat) (h : (i = 9 ∧ 1 < f i) ∨ (0 < i ∧ f i = 0)) : uv f n k i acc = (0, 0) := by
  cases k with
  | zero => rfl
  | succ k =>
    rw [uv]
    by_cases hi : i < n
    · rw [if_pos hi, if_pos h]
    · rw [if_neg hi]
theorem uv_last (f : Nat → Nat) (n k i acc : Nat) (hi : i < n) (h : ¬ ((i = 9 ∧ 1 < f i) ∨ (0 < i ∧ f i = 0))) (hc : f i < 128) : uv f n (k + 1) i acc = (stp acc (f i) i, i + 1) := by
  rw [uv, if_pos hi, if_neg h, if_pos hc]
theorem uv_more (f : Nat → Nat) (n k i acc : Nat) (hi : i < n) (h : ¬ ((i = 9 ∧ 1 < f i) ∨ (0 < i ∧ f i = 0))) (hc : ¬ f i < 128) : uv f n (k + 1) i acc = uv f n k (i + 1) (stp acc (f i) i) := by
  rw [uv, if_pos hi, if_neg h, if_neg hc]
theorem uv_wd (f : Nat → Nat) (n : Nat) : ∀ k i acc, acc < 18446744073709551616 → (uv f n k i acc).1 < 18446744073709551616 ∧ (uv f n k i acc).2 ≤ i + k ∧ ((uv f n k i acc).2 = 0 → (uv f n k i acc).1 = 0) := by
  intro k
  induction k with
  | zero => intro i acc h; exact ⟨by show 0 < _; decide, Nat.zero_le _, fun _ => rfl⟩
  | succ k ih =>
    intro i acc h
    by_cases hi : i < n
    · by_cases hb : (i = 9 ∧ 1 < f i) ∨ (0 < i ∧ f i = 0)
      · rw [uv_bad f n _ i acc hb]; exact ⟨by show 0 < _; decide, Nat.zero_le _, fun _ => rfl⟩
      · by_cases hc : f i < 128
        · rw [uv_last f n k i acc hi hb hc]
          exact ⟨stp_wd h, by show i + 1 ≤ _; omega, fun e => absurd e (by show i + 1 ≠ 0; omega)⟩
        · rw [uv_more f n k i acc hi hb hc]
          have := ih (i + 1) _ (stp_wd (c := f i) (i := i) h)
          exact ⟨this.1, by have := this.2.1; omega, this.2.2⟩
    · rw [uv_end f n _ i acc hi]; exact ⟨by show 0 < _; decide, Nat.zero_le _, fun _ => rfl⟩
end Go.Proofs.YtogflfepkddbhaaDoor.Ec
namespace Go.Proofs.YtogflfepkddbhaaDoor
set_option linter.unusedVariables false
open Go.ChangeShapes Go.WideShapes Go.ChangeAt Go.RowKit

theorem step_word (acc c i : Nat) (ha : Wd acc) (hc : c < 256) : bits BinOp.or IntKind.u64 (acc : Int) (IntKind.u64.wrap (IntKind.u64.wrap (bits BinOp.and IntKind.u8 (c : Int) 127) * 2 ^ (7 * i))) = ((Ec.stp acc c i : Nat) : Int) := by
  have e := (bits_nat .u8 8 (by decide) (fun n h0 h1 => wraps_u8 n h0 h1) c 127 (by omega) (by omega)).1
  rw [show c &&& 127 = c % 128 from Nat.and_two_pow_sub_one_eq_mod c 7] at e
  have e' : bits BinOp.and IntKind.u8 (c : Int) 127 = ((c % 128 : Nat) : Int) := e
  rw [e', show IntKind.u64.wrap ((c % 128 : Nat) : Int) = ((c % 128 : Nat) : Int) by rw [IntKind.wrap_u64]; omega]
  have e2 : IntKind.u64.wrap (((c % 128 : Nat) : Int) * 2 ^ (7 * i)) = (((c % 128) * 2 ^ (7 * i) % 18446744073709551616 : Nat) : Int) := by
    rw [show ((c % 128 : Nat) : Int) * 2 ^ (7 * i) = ((c % 128 * 2 ^ (7 * i) : Nat) : Int) by rw [Int.natCast_mul, Int.natCast_pow]; rfl, IntKind.wrap_u64]
    exact (Int.natCast_emod _ _).symm
  rw [e2]
  unfold Wd at ha
  exact (bits_nat .u64 64 (by decide) (fun n h0 h1 => by rw [IntKind.wrap_u64]; omega) acc _ (by omega) (by omega)).2
end Go.Proofs.YtogflfepkddbhaaDoor
namespace Go.Proofs.YtogflfepkddbhaaDoor
set_option linter.unusedVariables false
open Go.ChangeShapes Go.WideShapes Go.ChangeAt Go.RowKit

end Go.Proofs.YtogflfepkddbhaaDoor
namespace Go.Proofs.YtogflfepkddbhaaDoor
set_option linter.unusedVariables false
open Go.ChangeShapes Go.WideShapes Go.ChangeAt Go.RowKit

/-- The number with a sign of one without. -/
def si (v : Nat) : Int := if v % 2 = 1 then -((v / 2 : Nat) : Int) - 1 else ((v / 2 : Nat) : Int)
theorem xori0 (a : Nat) (ha : a < 9223372036854775808) : bits BinOp.xor IntKind.i64 (a : Int) 0 = (a : Int) := by
  have h1 : (BitVec.ofInt 64 (a : Int)).toNat = a := by
    rw [BitVec.ofInt_natCast, BitVec.toNat_ofNat]; exact Nat.mod_eq_of_lt (by omega)
  show IntKind.i64.wrap ((BitVec.ofInt 64 (a : Int) ^^^ BitVec.ofInt 64 (0 : Int)).toNat : Int) = _
  rw [BitVec.toNat_xor, h1, show (BitVec.ofInt 64 (0 : Int)).toNat = 0 from rfl, Nat.xor_zero, IntKind.wrap_i64]
  omega
theorem xori1 (a : Nat) (ha : a < 9223372036854775808) : bits BinOp.xor IntKind.i64 (a : Int) (-1) = -(a : Int) - 1 := by
  show IntKind.i64.wrap ((BitVec.ofInt 64 (a : Int) ^^^ BitVec.ofInt 64 (-1 : Int)).toNat : Int) = _
  rw [show BitVec.ofInt 64 (-1 : Int) = BitVec.allOnes 64 from rfl, BitVec.xor_allOnes, BitVec.toNat_not, BitVec.ofInt_natCast, BitVec.toNat_ofNat, IntKind.wrap_i64]
  omega
theorem and1w (v : Nat) (hv : Wd v) : bits BinOp.and IntKind.u64 (v : Int) 1 = ((v % 2 : Nat) : Int) := by
  have e := (bits_nat .u64 64 (by decide) (fun n h0 h1 => by rw [IntKind.wrap_u64]; omega) v 1 (by unfold Wd at hv; omega) (by omega)).1
  rw [show v &&& 1 = v % 2 from Nat.and_two_pow_sub_one_eq_mod v 1] at e
  exact e
end Go.Proofs.YtogflfepkddbhaaDoor
namespace Go.Proofs.YtogflfepkddbhaaDoor
set_option linter.unusedVariables false
open Go.ChangeShapes Go.WideShapes Go.ChangeAt Go.RowKit

/-- A slice of bytes that reads as a list. -/
def Row (w : World) (v : Value) (L : List UInt8) : Prop :=
  ∃ (ad : Option Addr) (cap B off : Nat), v = .slice ad L.length cap ∧ L.length ≤ cap ∧ cap ≤ 9223372036854775807 ∧ (0 < L.length → ad = some ⟨B, off, none⟩) ∧ ∀ j (h : j < L.length), w.cell? ⟨B, off + j, none⟩ = some (bv L[j])
theorem row_gr {w w' : World} {v : Value} {L : List UInt8} (h : Row w v L) (g : Gr w w') : Row w' v L := by
  obtain ⟨ad, cap, B, off, h1, h2, h3, h4, h5⟩ := h
  exact ⟨ad, cap, B, off, h1, h2, h3, h4, fun j hj => cell_gr g (h5 j hj)⟩
theorem row_own {w : World} {base : Nat} {v : Value} {L : List UInt8} (h : Own w base v L) : Row w v L := by
  have hl := h.1
  rcases h.2 with ⟨rfl, h0⟩ | ⟨g, cap, cur, rfl, hb, hg, hn, hc, hs, ht⟩
  · have : L = [] := List.eq_nil_of_length_eq_zero h0
    subst this
    exact ⟨none, 0, 0, 0, rfl, Nat.le_refl _, by omega, fun h => absurd h (by simp), fun j hj => absurd hj (by simp)⟩
  · refine ⟨_, cap, g, 0, rfl, hn, by unfold maxLen at hc; omega, fun _ => rfl, fun j hj => ?_⟩
    have := World.ownsRow.cellAt h j (by omega)
    rw [Nat.zero_add, this, List.getElem?_map, List.getElem?_eq_getElem hj]
    rfl
/-- The row's bytes by their places. -/
def rb (L : List UInt8) (j : Nat) : Nat := (L.getD j 0).toNat
theorem rb_lt (L : List UInt8) (j : Nat) : rb L j < 256 := UInt8.toNat_lt _
theorem getD_at (L : List UInt8) {j : Nat} (h : j < L.length) : L.getD j 0 = L[j] := by
  rw [List.getD_eq_getElem?_getD, List.getElem?_eq_getElem h]; rfl
theorem rb_at (L : List UInt8) {j : Nat} (h : j < L.length) : bv L[j] = .int .u8 (rb L j : Nat) := by
  unfold bv rb
  rw [getD_at _ h]
theorem rb_eq {L M : List UInt8} (h : L.length = M.length) : L = M ↔ ∀ j, j < L.length → rb L j = rb M j := by
  constructor
  · rintro rfl j _; rfl
  · intro k
    refine List.ext_getElem h fun j h1 h2 => ?_
    have := k j h1
    unfold rb at this
    rw [getD_at _ h1, getD_at _ h2] at this
    exact UInt8.toNat_inj.1 this

/-- The number that a row begins with. -/
def uL (L : List UInt8) : Nat × Nat := Ec.uv (rb L) L.length 10 0 0
end Go.Proofs.YtogflfepkddbhaaDoor
namespace Go.Proofs.YtogflfepkddbhaaDoor
set_option linter.unusedVariables false
open Go.ChangeShapes Go.WideShapes Go.ChangeAt Go.RowKit

theorem uL_wd (L : List UInt8) : Wd (uL L).1 ∧ (uL L).2 ≤ 10 ∧ ((uL L).2 = 0 → (uL L).1 = 0) := by
  have := Ec.uv_wd (rb L) L.length 10 0 0 (by decide)
  exact ⟨this.1, by show (Ec.uv (rb L) L.length 10 0 0).2 ≤ 10; have := this.2.1; omega, this.2.2⟩
end Go.Proofs.YtogflfepkddbhaaDoor
namespace Go.Proofs.YtogflfepkddbhaaDoor
set_option linter.unusedVariables false
open Go.ChangeShapes Go.WideShapes Go.ChangeAt Go.RowKit

/-- The bytes of n points. -/
def ptsB (X Y : Nat → Int) : Nat → List UInt8
  | 0 => []
  | i + 1 => ptsB X Y i ++ Ec.vr (zz (X i)) ++ Ec.vr (zz (Y i))
/-- An int. -/
def Iw (z : Int) : Prop := -9223372036854775808 ≤ z ∧ z < 9223372036854775808
theorem Iw.lo {z : Int} (h : Iw z) : -9223372036854775808 ≤ z := h.1
theorem Iw.hi {z : Int} (h : Iw z) : z < 9223372036854775808 := h.2
theorem zz_len {z : Int} (h : Iw z) : 1 ≤ (Ec.vr (zz z)).length ∧ (Ec.vr (zz z)).length ≤ 10 := Ec.vr_len10 (zz_wd h.1 h.2)
theorem ptsB_len (X Y : Nat → Int) (h : ∀ i, Iw (X i) ∧ Iw (Y i)) (n : Nat) : (ptsB X Y n).length ≤ 20 * n := by
  induction n with
  | zero => simp [ptsB]
  | succ n ih =>
    simp only [ptsB, List.length_append]
    have h1 := (zz_len (h n).1).2
    have h2 := (zz_len (h n).2).2
    omega
theorem own_alloc {w : World} {base : Nat} {v : Value} {L : List UInt8} (h : Own w base v L) (o : Obj) : Own (w.alloc o) base v L := World.ownsRow.alloc h o
theorem Grown.drew {a b : World} {u v : Value} (h : Grown a b u v) : Grown a b.drew u v := ⟨⟨h.1.os, h.1.tape, h.1.output, h.1.size, h.1.block⟩, h.2⟩
end Go.Proofs.YtogflfepkddbhaaDoor
