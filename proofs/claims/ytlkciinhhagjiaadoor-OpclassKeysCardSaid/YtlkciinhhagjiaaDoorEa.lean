/- numbers as bytes: plain facts; append onto a row of the call's own: where the new row lies; enc: numbers laid; enc: the document's Varint, and numbers with a sign; enc: numbers with a sign; enc: reading a number of bytes: plain facts; enc: the document's Unvarint; enc: Unvarint; enc: reading numbers with a sign; bytes that are read: rows of them, and whether two are alike; enc: objects laid; enc: objects laid: the loop over the points -/
import Derived.Test.YtlkciinhhagjiaaDoorK
import Derived.Laws.AppendOwn
import Derived.OwnWalk
import Derived.Laws.OwnMore
import Derived.Deep.RegionLaw
import Derived.Laws.Bits64b
import Derived.ArgAppend
import Derived.Deep.LoopGhost
import Derived.Maps.AppendAt
import Derived.Deep.RegionWith
namespace Go.Proofs.YtlkciinhhagjiaaDoor.Ec
set_option linter.unusedVariables false

/-- A number's groups of seven digits, the least first. -/
def vr (v : Nat) : List UInt8 := if h : v < 128 then [UInt8.ofNat v] else UInt8.ofNat (v % 128 + 128) :: vr (v / 128)
termination_by v
decreasing_by omega
theorem vr_small {v : Nat} (h : v < 128) : vr v = [UInt8.ofNat v] := by rw [vr, dif_pos h]
theorem vr_big {v : Nat} (h : ¬ v < 128) : vr v = UInt8.ofNat (v % 128 + 128) :: vr (v / 128) := by rw [vr, dif_neg h]
theorem vr_len : ∀ (k v : Nat), v < 128 ^ k → 1 ≤ k → 1 ≤ (vr v).length ∧ (vr v).length ≤ k := by
  intro k
  induction k with
  | zero => intro v _ h; omega
  | succ k ih =>
    intro v hv _
    by_cases h : v < 128
    · rw [vr_small h]; simp
    · rw [vr_big h]
      rw [Nat.pow_succ] at hv
      have hk : 1 ≤ k := by
        rcases Nat.eq_zero_or_pos k with h0 | h0
        · subst h0; simp at hv; omega
        · exact h0
      have := ih (v / 128) (by omega) hk
      simp; omega
theorem vr_len10 {v : Nat} (h : v < 18446744073709551616) : 1 ≤ (vr v).length ∧ (vr v).length ≤ 10 := vr_len 10 v (Nat.lt_of_lt_of_le h (by decide)) (by omega)
set_option maxRecDepth 100000 in
theorem byte_or (v : Nat) : v % 256 ||| 128 = v % 128 + 128 := by
  have h1 : v % 256 % 128 = v % 128 := by omega
  have key : ∀ x, x < 256 → x ||| 128 = x % 128 + 128 := by decide
  rw [key _ (by omega), h1]
set_option maxRecDepth 100000 in
theorem low_or (v : Nat) : v % 128 ||| 128 = v % 128 + 128 := by
  have key : ∀ x, x < 128 → x ||| 128 = x + 128 := by decide
  exact key _ (by omega)
theorem len_mono {n m : Nat} (h : n ≤ m) : (vr n).length ≤ (vr m).length := by
  induction m using Nat.strongRecOn generalizing n with
  | _ m ih =>
    by_cases hm : m < 128
    · rw [vr_small hm, vr_small (by omega)]; simp
    · rw [vr_big hm]
      by_cases hn : n < 128
      · rw [vr_small hn]; simp
      · rw [vr_big hn]
        have := ih (m / 128) (by omega) (n := n / 128) (by omega)
        simp; omega
theorem vr_inj {n m : Nat} (h : vr n = vr m) : n = m := by
  induction m using Nat.strongRecOn generalizing n with
  | _ m ih =>
    have tn : ∀ x, x < 256 → (UInt8.ofNat x).toNat = x := fun x hx => by rw [UInt8.toNat_ofNat']; omega
    by_cases hm : m < 128
    · by_cases hn : n < 128
      · rw [vr_small hm, vr_small hn] at h
        have := congrArg UInt8.toNat (List.cons.inj h).1
        rw [tn n (by omega), tn m (by omega)] at this
        exact this
      · rw [vr_small hm, vr_big hn] at h
        have := congrArg UInt8.toNat (List.cons.inj h).1
        rw [tn _ (by omega), tn m (by omega)] at this
        omega
    · by_cases hn : n < 128
      · rw [vr_big hm, vr_small hn] at h
        have := congrArg UInt8.toNat (List.cons.inj h).1
        rw [tn n (by omega), tn _ (by omega)] at this
        omega
      · rw [vr_big hm, vr_big hn] at h
        have h1 := congrArg UInt8.toNat (List.cons.inj h).1
        rw [tn _ (by omega), tn _ (by omega)] at h1
        have := ih (m / 128) (by omega) (List.cons.inj h).2
        omega
end Go.Proofs.YtlkciinhhagjiaaDoor.Ec
namespace Go.Proofs.YtlkciinhhagjiaaDoor
set_option linter.unusedVariables false
open Go.ChangeShapes Go.WideShapes Go.ChangeAt Go.RowKit

theorem gr_of_grown {w a b : World} {r : Option Nat} (h : Gr w a) (g : a.grownBy b r) (hr : ∀ k, r = some k → w.heap.size ≤ k) : Gr w b :=
  ⟨g.os.trans h.os, g.tape.trans h.tape, g.output.trans h.output, Nat.le_trans h.size g.size, fun k hk => (g.block k (Nat.lt_of_lt_of_le hk h.size) (fun e => by have := hr k e.symm; omega)).trans (h.block k hk)⟩
/-- Nothing of w is turned but the row of v; v' is that row, or a new one. -/
def Grown (w w' : World) (v v' : Value) : Prop := w.grownBy w' v.ownBlock ∧ ∀ k, v'.ownBlock = some k → v.ownBlock = some k ∨ w.heap.size ≤ k
theorem Grown.size {a b : World} {u v : Value} (h : Grown a b u v) : a.heap.size ≤ b.heap.size := h.1.size
theorem Grown.at {a b : World} {u v : Value} (h : Grown a b u v) : ∀ k, v.ownBlock = some k → u.ownBlock = some k ∨ a.heap.size ≤ k := h.2
theorem Grown.refl (w : World) (v : Value) : Grown w w v v := ⟨⟨rfl, rfl, rfl, Nat.le_refl _, fun _ _ _ => rfl⟩, fun k h => Or.inl h⟩
theorem Grown.trans {a b c : World} {u v x : Value} (h : Grown a b u v) (k : Grown b c v x) : Grown a c u x := by
  refine ⟨⟨k.1.os.trans h.1.os, k.1.tape.trans h.1.tape, k.1.output.trans h.1.output, Nat.le_trans h.1.size k.1.size, fun i hi hn => ?_⟩, fun i hi => ?_⟩
  · refine (k.1.block i (Nat.lt_of_lt_of_le hi h.1.size) fun e => ?_).trans (h.1.block i hi hn)
    rcases h.2 i e.symm with h1 | h1
    · exact hn h1.symm
    · omega
  · rcases k.2 i hi with h1 | h1
    · exact h.2 i h1
    · exact Or.inr (Nat.le_trans h.1.size h1)
theorem Grown.of_gr {a b : World} (v : Value) (g : Gr a b) : Grown a b v v :=
  ⟨⟨g.os, g.tape, g.output, g.size, fun k hk _ => g.block k hk⟩, fun k h => Or.inl h⟩
theorem Grown.alloc {a b : World} {u v : Value} (h : Grown a b u v) (o : Obj) : Grown a (b.alloc o) u v :=
  h.trans ⟨World.grownBy_alloc b o _, fun k h => Or.inl h⟩
theorem Grown.gr {a b w0 : World} {u v : Value} (h : Grown a b u v) (g : Gr w0 a) (hr : ∀ k, u.ownBlock = some k → w0.heap.size ≤ k) : Gr w0 b := gr_of_grown g h.1 hr
theorem Grown.nil {a b : World} {v : Value} (h : Grown a b (.slice none 0 0) v) : Gr a b := gr_of_grown (Below.refl _ _) h.1 (fun k e => by cases e)
theorem Grown.block {a b : World} {u v : Value} (h : Grown a b u v) {p : Nat} {o : Obj} (hc : a.heap[p]? = some o) (hn : ∀ k, u.ownBlock = some k → k ≠ p) : b.heap[p]? = some o :=
  (h.1.block p (Array.getElem?_eq_some_iff.1 hc).1 (fun e => by cases hu : u.ownBlock with
    | none => rw [hu] at e; cases e
    | some k => rw [hu] at e; exact hn k hu (Option.some.inj e).symm)).trans hc
/-- A row with something in it. -/
theorem row_form {w : World} {base n size : Nat} {e : TypeId} {v : Value} {xs : List Value} (h : w.ownsRow base e size v n xs) (h0 : 0 < n) : ∃ g cap, v = .slice (some ⟨g, 0, none⟩) n cap ∧ base ≤ g ∧ g < w.heap.size ∧ n ≤ cap ∧ (cap : Int) ≤ 9223372036854775807 := by
  rcases h.2 with ⟨-, h0'⟩ | ⟨g, cap, cur, rfl, hb, hg, hn, hc, hs, ht⟩
  · omega
  · exact ⟨g, cap, rfl, hb, (Array.getElem?_eq_some_iff.1 hg).1, hn, by unfold maxLen at hc; omega⟩
/-- A cell that lies in another block stays. -/
theorem Grown.cell {a b : World} {u v : Value} (h : Grown a b u v) {p : Addr} {x : Value} (hc : a.cell? p = some x) (hn : ∀ k, u.ownBlock = some k → k ≠ p.block) : b.cell? p = some x :=
  h.1.cell hc (fun e => by cases hu : u.ownBlock with
    | none => rw [hu] at e; cases e
    | some k => rw [hu] at e; exact hn k hu (Option.some.inj e).symm)

section
variable {P : Program} (w : World)
theorem append_place (base : Nat) (t ty e : TypeId) (i : TypeInfo) (z : Value) (size bytes : Nat) (ht : P.underlying t = some (.slice e)) (hi : P.info? e = some i) (hz : i.zero = some z)
    (hsize : i.size = size) (hby : i.bytes = bytes) (v : Value) (n : Nat) (xs : List Value) (hown : w.ownsRow base e size v n xs)
    (a : Addr) (m c : Nat) (news : List Value) (hl : news.length = m * size) (hnews : ∀ j u, news[j]? = some u → w.cell? (a.add j) = some u) (h1 : ∀ u ∈ news, u.oneCell' = true)
    (h63 : n + m ≤ maxLen) (hbytes : (n + m) * bytes ≤ 140737488355328) {v' : Value} {w' : World} (hr : (Builtin.append_ #[t, t] ty #[v, .slice (some a) m c]).run P w = .ok v' w') :
    ∀ k, v'.ownBlock = some k → v.ownBlock = some k ∨ w.heap.size ≤ k := by
  subst hsize hby
  have hsmall : n + m ≤ 9223372036854775807 := by simp only [maxLen] at h63; omega
  rcases hown.2 with ⟨rfl, rfl⟩ | ⟨g, cap, cur, rfl, hbg, hg, hnc, hcm, hcs, htake⟩
  · by_cases hm : m = 0
    · subst hm
      have hn : news = [] := List.eq_nil_of_length_eq_zero (by simpa using hl)
      subst hn
      have e0 : (Builtin.append_ #[t, t] ty #[.slice none 0 0, .slice (some a) 0 c]).run P w = .ok (.slice none 0 0) w := by
        simp [Builtin.append_, run_underlying ht, sizeOf, typeInfo, hi, Builtin.lenOf, Builtin.firstCells, loadCells, loadCellsFrom]
      rw [e0] at hr
      cases hr
      intro k hk
      cases hk
    · rw [run_append_nil (P := P) w t ty e i z ht hi hz a m c news hl hnews (by omega) (by omega) (by have hb := hbytes; simp only [Nat.zero_add] at hb; omega)] at hr
      cases hr
      intro k hk
      simp [Value.ownBlock] at hk
      omega
  · by_cases hroom : n + m ≤ cap
    · have hfit : n * i.size + news.length ≤ cur.size := by rw [hl, hcs, ← Nat.add_mul]; exact Nat.mul_le_mul_right _ hroom
      rw [run_append_room (P := P) w t ty e i ht hi g n cap cur hg a m c news hl hnews h1 hroom hfit] at hr
      cases hr
      intro k hk
      exact Or.inl hk
    · rw [run_append_grow (P := P) w t ty e i z ht hi hz ⟨g, 0, none⟩ n cap xs hown.1 (hown.cells (g := g) rfl) a m c news hl hnews (by omega) (by omega) (growslice_fits (by omega) hbytes)] at hr
      cases hr
      intro k hk
      simp [Value.ownBlock] at hk
      omega
theorem wpList_append_own2 {ops : Array Oper} {rest : List Oper} {o : Oper} {a : Act} {Q : Exit → Act → World → Prop} (hgd : o.guard = none) (s x : Operand) (t : TypeId)
    (ho : o.op = .call { callee := .builtin .append, args := #[s, x], argTypes := #[t, t] })
    (base : Nat) (e : TypeId) (i : TypeInfo) (z : Value) (size bytes : Nat) (ht : P.underlying t = some (.slice e)) (hi : P.info? e = some i) (hz : i.zero = some z)
    (hsize : i.size = size) (hby : i.bytes = bytes) (hzs : z.cells.size = size) (hsz : 0 < size)
    (v : Value) (n : Nat) (xs : List Value) (hs : a.eval s = v) (hown : w.ownsRow base e size v n xs)
    (ad : Addr) (m c : Nat) (news : List Value) (hx : a.eval x = .slice (some ad) m c) (hl : news.length = m * size) (hnews : ∀ j u, news[j]? = some u → w.cell? (ad.add j) = some u) (h1 : ∀ u ∈ news, u.oneCell' = true)
    (h63 : n + m ≤ maxLen) (hbytes : (n + m) * bytes ≤ 140737488355328) (hbase : base ≤ w.heap.size)
    (h : ∀ v' w', w'.ownsRow base e size v' (n + m) (xs ++ news) → Grown w w' v v' → wpList P ops Q rest (a.put o.dst v') w') : wpList P ops Q (o :: rest) a w := by
  refine wpList_plain hgd fun K hK => ?_
  obtain ⟨v', w', hr, h2, h3, h4⟩ := run_append_own (P := P) w base t o.type e i z size bytes ht hi hz hsize hby hzs hsz v n xs hown ad m c news hl hnews h1 h63 hbytes hbase
  have h5 := append_place (P := P) w base t o.type e i z size bytes ht hi hz hsize hby v n xs hown ad m c news hl hnews h1 h63 hbytes hr
  unfold Oper.wp execOp
  simp only [ho, resolve, invoke, builtin, Sem.run_bind, Sem.run_pure, Result.andThen_ok, List.map_toArray, List.map_cons, List.map_nil, hs, hx, hr]
  exact hK _ _ (h v' w' h2 ⟨h3, h5⟩)
/-- The same, as one step of a region that draws. -/
theorem step_append_own2 {w : World} {ops : Array Oper} {o : Oper} {a : Act} {K : Act → World → Prop} {Q : Exit → Act → World → Prop} {E : Prop} (hg : o.guard = none) (s x : Operand) (t : TypeId)
    (ho : o.op = .call { callee := .builtin .append, args := #[s, x], argTypes := #[t, t] })
    (base : Nat) (e : TypeId) (i : TypeInfo) (z : Value) (size bytes : Nat) (ht : P.underlying t = some (.slice e)) (hi : P.info? e = some i) (hz : i.zero = some z)
    (hsize : i.size = size) (hby : i.bytes = bytes) (hzs : z.cells.size = size) (hsz : 0 < size)
    (v : Value) (n : Nat) (xs : List Value) (hs : a.eval s = v) (hown : w.ownsRow base e size v n xs)
    (ad : Addr) (m c : Nat) (news : List Value) (hx : a.eval x = .slice (some ad) m c) (hl : news.length = m * size) (hnews : ∀ j u, news[j]? = some u → w.cell? (ad.add j) = some u) (h1 : ∀ u ∈ news, u.oneCell' = true)
    (h63 : n + m ≤ maxLen) (hbytes : (n + m) * bytes ≤ 140737488355328) (hbase : base ≤ w.heap.size)
    (h : ∀ v' w', w'.ownsRow base e size v' (n + m) (xs ++ news) → Grown w w' v v' → K (a.put o.dst v') w') : if Region.wanted o (yielded ops a.tmps) = true then Oper.wp P o a w K Q else E := by
  have hw : Region.wanted o (yielded ops a.tmps) = true := by simp [Region.wanted, hg]
  rw [if_pos hw]
  obtain ⟨v', w', hr, h2, h3, h4⟩ := run_append_own (P := P) w base t o.type e i z size bytes ht hi hz hsize hby hzs hsz v n xs hown ad m c news hl hnews h1 h63 hbytes hbase
  have h5 := append_place (P := P) w base t o.type e i z size bytes ht hi hz hsize hby v n xs hown ad m c news hl hnews h1 h63 hbytes hr
  unfold Oper.wp execOp
  simp only [ho, resolve, invoke, builtin, Sem.run_bind, Sem.run_pure, Result.andThen_ok, List.map_toArray, List.map_cons, List.map_nil, hs, hx, hr]
  exact h v' w' h2 ⟨h3, h5⟩
end
/-- The cells of a new block. -/
theorem cells_new (w : World) (cs : Array Value) (e : TypeId) (xs : List Value) (hx : cs.toList = xs) : ∀ j u, xs[j]? = some u → (w.alloc (.cells cs e)).cell? ((⟨w.heap.size, 0, none⟩ : Addr).add j) = some u := by
  intro j u hu
  subst hx
  have hadd : (⟨w.heap.size, 0, none⟩ : Addr).add j = ⟨w.heap.size, j, none⟩ := by unfold Addr.add; split <;> simp_all
  rw [hadd, cell_of_row _ w.heap.size j cs e (0, 0) (heap_alloc_new w _)]
  simpa using hu
theorem rowOwn_gr {a b : World} {base e size n : Nat} {v : Value} {xs : List Value} (h : a.ownsRow base e size v n xs) (g : Gr a b) : b.ownsRow base e size v n xs :=
  h.kept (row := none) ⟨g.os, g.tape, g.output, g.size, fun k hk _ => g.block k hk⟩ (by
    rcases hh : v.ownBlock with _ | k
    · exact Or.inl rfl
    · exact Or.inr (by simp))
end Go.Proofs.YtlkciinhhagjiaaDoor
namespace Go.Proofs.YtlkciinhhagjiaaDoor
set_option linter.unusedVariables false
open Go.ChangeShapes Go.WideShapes Go.ChangeAt Go.RowKit


/-- A byte, as it lies. -/
def bv (c : UInt8) : Value := .int .u8 (c.toNat : Int)
/-- A row of bytes that the call owns. -/
def Own (w : World) (base : Nat) (v : Value) (L : List UInt8) : Prop := w.ownsRow base 5 1 v L.length (L.map bv)
theorem own_row {w : World} {base : Nat} {v : Value} {L : List UInt8} (h : Own w base v L) (k : Nat) (hk : v.ownBlock = some k) : base ≤ k := by
  rcases h.2 with ⟨rfl, -⟩ | ⟨g, cap, cur, rfl, hb, -⟩
  · cases hk
  · simp [Value.ownBlock] at hk; omega
theorem bv_one (L : List UInt8) : ∀ u ∈ L.map bv, u.oneCell' = true := by
  intro u hu
  obtain ⟨x, -, rfl⟩ := List.mem_map.1 hu
  rfl
theorem or128 (v : Nat) (hv : Wd v) : bits BinOp.or IntKind.u8 (((v % 256 : Nat) : Int)) 128 = ((v % 128 + 128 : Nat) : Int) := by
  have e := (bits_nat .u8 8 (by decide) (fun n h0 h1 => wraps_u8 n h0 h1) (v % 256) 128 (by omega) (by omega)).2
  rw [Ec.byte_or] at e
  exact e
theorem wraps_u8' (y : Nat) : IntKind.u8.wrap (y : Int) = ((y % 256 : Nat) : Int) := by
  show ((y : Int)) % 256 = _
  omega
theorem byte_eq {x : Nat} (h : x < 256) : bv (UInt8.ofNat x) = .int .u8 (x : Int) := by
  unfold bv
  rw [UInt8.toNat_ofNat']
  congr 1
  omega
theorem own_nil (W : World) (base : Nat) : Own W base (.slice none 0 0) [] := World.ownsRow_nil _ _ _ _
set_option maxHeartbeats 4000000 in
set_option maxRecDepth 100000 in
theorem c_appendVarint (L : List UInt8) (b : Value) (v base : Nat) (hv : Wd v) (W : World) (hL : L.length ≤ 100000) (hb : base ≤ W.heap.size) (hO : Own W base b L) :
    Calls Tryd.prog 100 #[b, .int .u64 v] W fun e w' => ∃ b', e = .returned b' ∧ Own w' base b' (L ++ Ec.vr v) ∧ Grown W w' b b' := by
  obtain ⟨i0, hi0, hz0, hz1, hz2⟩ := info_parts (P := Tryd.prog) (e := 5) (z := .int .u8 0) (size := 1) (bytes := 1) (by kernel_rfl)
  have HI := Lib.hid hi0
  have HZ0 := Lib.hid hz0
  have HZ1 := Lib.hid hz1
  have HZ2 := Lib.hid hz2
  have HO := Lib.hid hO
  have HV := Lib.hid hv
  clear hi0 hz0 hz1 hz2 hO hv
  go_enter Tryd.func100, Tryd.ntmps100
  go_wp2_with fail
  go_loopg [0, 1] v (fun k bb x wr => ∃ (L' : List UInt8) (y : Nat), x = .int .u64 y ∧ y ≤ k ∧ Wd y ∧ L ++ Ec.vr v = L' ++ Ec.vr y ∧ Own wr base bb L' ∧ W.heap.size ≤ wr.heap.size ∧ Grown W wr b bb)
  case atStart => exact ⟨L, v, rfl, Nat.le_refl _, HV.out, rfl, HO.out, Nat.le_refl _, Grown.refl _ _⟩
  case round =>
    obtain ⟨L', y, rfl, hyk, hy, hE, hOw, hsz, hg⟩ := hrel
    have hlen : L'.length ≤ 100010 := by
      have h := congrArg List.length hE
      rw [List.length_append, List.length_append] at h
      have := (Ec.vr_len10 HV.out).2
      omega
    have hbs : base ≤ wr.heap.size := Nat.le_trans hb hsz
    have HOw := Lib.hid hOw
    have HG := Lib.hid hg
    have HE := Lib.hid hE
    have HY := Lib.hid hy
    clear hOw hg hE hy
    obtain ⟨q, eq⟩ : ∃ q, q = y / 128 := ⟨_, rfl⟩
    have c7 : (y : Int) / 128 = (q : Int) := by omega
    have c7b : (y : Int) / 2 ^ 7 = (q : Int) := by rw [show ((2 : Int) ^ 7) = 128 from rfl]; omega
    have c7c : (y : Int) / 2 ^ min 7 64 = (q : Int) := by rw [Nat.min_eq_left (by decide)]; exact c7b
    have c7d : y / 128 = q := eq.symm
    have HQ := Lib.hid eq
    clear eq
    by_cases h128 : 128 ≤ y
    · have t1 : decide ((128 : Int) ≤ (y : Int)) = true := decide_eq_true (by omega)
      have t2 : (128 : Int) ≤ (y : Int) := by omega
      have t3 : decide (128 ≤ y) = true := decide_eq_true h128
      obtain ⟨B, eB⟩ : ∃ B : Int, B = ((y % 128 + 128 : Nat) : Int) := ⟨_, rfl⟩
      have co : bits BinOp.or IntKind.u8 ((y : Int) % 256) 128 = B := by
        have h := or128 y HY.out
        rw [← eB] at h
        rw [← h]
        congr 1
      have ce : bv (UInt8.ofNat (y % 128 + 128)) = .int .u8 B := by rw [eB]; exact byte_eq (x := y % 128 + 128) (by omega)
      have HC := Lib.hid ce
      clear ce eB
      go_wp2_with (first | (at_builtin; (refine wpList_append_own2 _ rfl (.tmp 7) (.tmp 11) 45 rfl base 5 i0 (.int .u8 0) 1 1 Tryd.underlying45 HI.out HZ0.out HZ1.out HZ2.out rfl (by decide) u0 L'.length (L'.map bv) rfl (World.ownsRow.alloc HOw.out _) ⟨wr.heap.size, 0, none⟩ 1 1 [.int .u8 B] rfl rfl (cell_one_new _ _ _) (by intro u hu; (simp at hu); subst hu; rfl) (by unfold maxLen; omega) (by omega) (by simp; omega) ?_); intro v1 w2 own2 grow2))
      have gz : Grown W w2 b v1 := (HG.out.alloc _).trans grow2
      have hz2 : wr.heap.size ≤ w2.heap.size := by
        have := grow2.1.size
        simp at this
        omega
      go_roundg q
      case measure => have := HQ.out; omega
      case rel =>
        refine ⟨L' ++ [UInt8.ofNat (y % 128 + 128)], q, rfl, Nat.le_refl _, ?_, ?_, ?_, Nat.le_trans hsz hz2, gz⟩
        · have := HY.out; have := HQ.out; unfold Wd at *; omega
        · rw [HE.out, Ec.vr_big (by omega), HQ.out, List.append_assoc]; rfl
        · unfold Own
          rw [List.length_append, List.map_append]
          rw [show [UInt8.ofNat (y % 128 + 128)].map bv = [.int .u8 B] from (by rw [← HC.out]; rfl)]
          exact own2
    · have t1 : decide ((128 : Int) ≤ (y : Int)) = false := decide_eq_false (by omega)
      have t2 : ¬ (128 : Int) ≤ (y : Int) := by omega
      have t3 : decide (128 ≤ y) = false := decide_eq_false h128
      have ce : bv (UInt8.ofNat y) = .int .u8 (y : Int) := byte_eq (by omega)
      have HC := Lib.hid ce
      clear ce
      go_wp2_with (first | (at_builtin; (refine wpList_append_own2 _ rfl (.tmp 15) (.tmp 18) 45 rfl base 5 i0 (.int .u8 0) 1 1 Tryd.underlying45 HI.out HZ0.out HZ1.out HZ2.out rfl (by decide) u0 L'.length (L'.map bv) rfl (World.ownsRow.alloc HOw.out _) ⟨wr.heap.size, 0, none⟩ 1 1 [.int .u8 (y : Int)] rfl rfl (cell_one_new _ _ _) (by intro u hu; (simp at hu); subst hu; rfl) (by unfold maxLen; omega) (by omega) (by simp; omega) ?_); intro v1 w2 own2 grow2))
      have gz : Grown W w2 b v1 := (HG.out.alloc _).trans grow2
      go_ret
      refine ⟨_, rfl, ?_, gz⟩
      unfold Own
      rw [HE.out, Ec.vr_small (by omega), List.length_append, List.map_append]
      simpa [HC.out] using own2
end Go.Proofs.YtlkciinhhagjiaaDoor
namespace Go.Proofs.YtlkciinhhagjiaaDoor
set_option linter.unusedVariables false
open Go.ChangeShapes Go.WideShapes Go.ChangeAt Go.RowKit

theorem and127 (v : Nat) (hv : Wd v) : bits BinOp.and IntKind.u64 (v : Int) 127 = ((v % 128 : Nat) : Int) := by
  have e := (bits_nat .u64 64 (by decide) (fun n h0 h1 => by rw [IntKind.wrap_u64]; omega) v 127 (by unfold Wd at hv; omega) (by omega)).1
  rw [show v &&& 127 = v % 128 from Nat.and_two_pow_sub_one_eq_mod v 7] at e
  exact e
theorem or128w (v : Nat) : bits BinOp.or IntKind.u64 ((v % 128 : Nat) : Int) 128 = ((v % 128 + 128 : Nat) : Int) := by
  have e := (bits_nat .u64 64 (by decide) (fun n h0 h1 => by rw [IntKind.wrap_u64]; omega) (v % 128) 128 (by omega) (by omega)).2
  rw [Ec.low_or] at e
  exact e
set_option maxHeartbeats 4000000 in
set_option maxRecDepth 100000 in
theorem c_rVarint (v : Nat) (hv : Wd v) (W : World) :
    Calls Tryd.prog 89 #[.int .u64 v] W fun e w' => ∃ b', e = .returned b' ∧ Own w' W.heap.size b' (Ec.vr v) ∧ Gr W w' := by
  obtain ⟨i0, hi0, hz0, hz1, hz2⟩ := info_parts (P := Tryd.prog) (e := 5) (z := .int .u8 0) (size := 1) (bytes := 1) (by kernel_rfl)
  have HI := Lib.hid hi0
  have HZ0 := Lib.hid hz0
  have HZ1 := Lib.hid hz1
  have HZ2 := Lib.hid hz2
  have HV := Lib.hid hv
  clear hi0 hz0 hz1 hz2 hv
  go_enter Tryd.func89, Tryd.ntmps89
  go_wp2_with fail
  go_loopg [0, 3] v (fun k x bb wr => ∃ (L' : List UInt8) (y : Nat), x = .int .u64 y ∧ y ≤ k ∧ Wd y ∧ Ec.vr v = L' ++ Ec.vr y ∧ Own wr W.heap.size bb L' ∧ Gr W wr)
  case atStart => exact ⟨[], v, rfl, Nat.le_refl _, HV.out, rfl, own_nil _ _, by go_grown⟩
  case round =>
    obtain ⟨L', y, rfl, hyk, hy, hE, hOw, gwr⟩ := hrel
    have hsz := gwr.size
    have hbs := hsz
    have hlen : L'.length ≤ 100010 := by
      have h := congrArg List.length hE
      rw [List.length_append] at h
      have := (Ec.vr_len10 HV.out).2
      omega
    have HOw := Lib.hid hOw
    have HE := Lib.hid hE
    have HY := Lib.hid hy
    clear hOw hE hy
    obtain ⟨q, eq⟩ : ∃ q, q = y / 128 := ⟨_, rfl⟩
    have c7 : (y : Int) / 128 = (q : Int) := by omega
    have c7b : (y : Int) / 2 ^ 7 = (q : Int) := by rw [show ((2 : Int) ^ 7) = 128 from rfl]; omega
    have c7c : (y : Int) / 2 ^ min 7 64 = (q : Int) := by rw [Nat.min_eq_left (by decide)]; exact c7b
    have c7d : y / 128 = q := eq.symm
    have HQ := Lib.hid eq
    clear eq
    by_cases h128 : 128 ≤ y
    · have t1 : decide ((128 : Int) ≤ (y : Int)) = true := decide_eq_true (by omega)
      have t2 : (128 : Int) ≤ (y : Int) := by omega
      have t3 : decide (128 ≤ y) = true := decide_eq_true h128
      obtain ⟨B, eB⟩ : ∃ B : Int, B = ((y % 128 + 128 : Nat) : Int) := ⟨_, rfl⟩
      obtain ⟨m, eM⟩ : ∃ m : Int, m = ((y % 128 : Nat) : Int) := ⟨_, rfl⟩
      have ca : bits BinOp.and IntKind.u64 (y : Int) 127 = m := by rw [eM]; exact and127 y HY.out
      have co : bits BinOp.or IntKind.u64 m 128 = B := by rw [eM, eB]; exact or128w y
      have cm : B % 256 = B := by omega
      have cm2 : IntKind.u8.wrap B = B := by show B % 256 = B; omega
      have ce : bv (UInt8.ofNat (y % 128 + 128)) = .int .u8 B := by rw [eB]; exact byte_eq (x := y % 128 + 128) (by omega)
      have HC := Lib.hid ce
      clear ce eB eM
      go_wp2_with (first | (at_builtin; (refine wpList_append_own _ rfl (.tmp 6) (.tmp 11) 45 rfl W.heap.size 5 i0 (.int .u8 0) 1 1 Tryd.underlying45 HI.out HZ0.out HZ1.out HZ2.out rfl (by decide) u3 L'.length (L'.map bv) rfl (World.ownsRow.alloc HOw.out _) ⟨wr.heap.size, 0, none⟩ 1 1 [.int .u8 B] rfl rfl (cell_one_new _ _ _) (by intro u hu; (simp at hu); subst hu; rfl) (by unfold maxLen; omega) (by omega) (by simp; omega) ?_); intro v1 w2 own2 grow2 nil2))
      have gz : Gr W w2 := by
        refine gr_of_grown (show Gr W (wr.alloc _) by go_grown) grow2 (fun k h => ?_)
        exact own_row HOw.out k h
      have hz2 : wr.heap.size ≤ w2.heap.size := by
        have := grow2.size
        simp at this
        omega
      go_roundg q
      case measure => have := HQ.out; omega
      case rel =>
        refine ⟨L' ++ [UInt8.ofNat (y % 128 + 128)], q, rfl, Nat.le_refl _, ?_, ?_, ?_, gz⟩
        · have := HY.out; have := HQ.out; unfold Wd at *; omega
        · rw [HE.out, Ec.vr_big (by omega), HQ.out, List.append_assoc]; rfl
        · unfold Own
          rw [List.length_append, List.map_append]
          rw [show [UInt8.ofNat (y % 128 + 128)].map bv = [.int .u8 B] from (by rw [← HC.out]; rfl)]
          exact own2
    · have t1 : decide ((128 : Int) ≤ (y : Int)) = false := decide_eq_false (by omega)
      have t2 : ¬ (128 : Int) ≤ (y : Int) := by omega
      have t3 : decide (128 ≤ y) = false := decide_eq_false h128
      have ce : bv (UInt8.ofNat y) = .int .u8 (y : Int) := byte_eq (by omega)
      have HC := Lib.hid ce
      clear ce
      go_wp2_with (first | (at_builtin; (refine wpList_append_own _ rfl (.tmp 15) (.tmp 18) 45 rfl W.heap.size 5 i0 (.int .u8 0) 1 1 Tryd.underlying45 HI.out HZ0.out HZ1.out HZ2.out rfl (by decide) u3 L'.length (L'.map bv) rfl (World.ownsRow.alloc HOw.out _) ⟨wr.heap.size, 0, none⟩ 1 1 [.int .u8 (y : Int)] rfl rfl (cell_one_new _ _ _) (by intro u hu; (simp at hu); subst hu; rfl) (by unfold maxLen; omega) (by omega) (by simp; omega) ?_); intro v1 w2 own2 grow2 nil2))
      have gz : Gr W w2 := by
        refine gr_of_grown (show Gr W (wr.alloc _) by go_grown) grow2 (fun k h => ?_)
        exact own_row HOw.out k h
      go_ret
      refine ⟨_, rfl, ?_, gz⟩
      unfold Own
      rw [HE.out, Ec.vr_small (by omega), List.length_append, List.map_append]
      simpa [HC.out] using own2
end Go.Proofs.YtlkciinhhagjiaaDoor
namespace Go.Proofs.YtlkciinhhagjiaaDoor
set_option linter.unusedVariables false
open Go.ChangeShapes Go.WideShapes Go.ChangeAt Go.RowKit

/-- A number with a sign, as one without. -/
def zz (n : Int) : Nat := if 0 ≤ n then (2 * n).toNat else (-2 * n - 1).toNat
theorem zz_wd {n : Int} (h0 : -9223372036854775808 ≤ n) (h1 : n < 9223372036854775808) : Wd (zz n) := by
  unfold zz Wd; split <;> omega
theorem xor0 (a : Nat) (ha : Wd a) : bits BinOp.xor IntKind.u64 (a : Int) 0 = (a : Int) := by
  unfold Wd at ha
  have h1 : (BitVec.ofInt 64 (a : Int)).toNat = a := by
    rw [BitVec.ofInt_natCast, BitVec.toNat_ofNat]; exact Nat.mod_eq_of_lt (by omega)
  show IntKind.u64.wrap ((BitVec.ofInt 64 (a : Int) ^^^ BitVec.ofInt 64 (0 : Int)).toNat : Int) = _
  rw [BitVec.toNat_xor, h1, show (BitVec.ofInt 64 (0 : Int)).toNat = 0 from rfl, Nat.xor_zero, IntKind.wrap_u64]
  omega
theorem xor1 (a : Nat) (ha : Wd a) : bits BinOp.xor IntKind.u64 (a : Int) 18446744073709551615 = ((18446744073709551615 - a : Nat) : Int) := by
  unfold Wd at ha
  show IntKind.u64.wrap ((BitVec.ofInt 64 (a : Int) ^^^ BitVec.ofInt 64 (18446744073709551615 : Int)).toNat : Int) = _
  rw [show BitVec.ofInt 64 (18446744073709551615 : Int) = BitVec.allOnes 64 from rfl, BitVec.xor_allOnes, BitVec.toNat_not, BitVec.ofInt_natCast, BitVec.toNat_ofNat, IntKind.wrap_u64]
  omega
set_option maxHeartbeats 4000000 in
set_option maxRecDepth 100000 in
theorem c_rSigned (n : Int) (h0 : -9223372036854775808 ≤ n) (h1 : n < 9223372036854775808) (W : World) :
    Calls Tryd.prog 72 #[.int .i64 n] W fun e w' => ∃ b', e = .returned b' ∧ Own w' W.heap.size b' (Ec.vr (zz n)) ∧ Gr W w' := by
  have A := c_rVarint (zz n) (zz_wd h0 h1) W
  have hz : (zz n : Int) = if 0 ≤ n then 2 * n else -2 * n - 1 := by unfold zz; split <;> omega
  obtain ⟨z, ez⟩ : ∃ z, z = zz n := ⟨_, rfl⟩
  rw [← ez] at A hz
  rw [← ez]
  clear ez
  have HA := Lib.hid A
  clear A
  go_enter Tryd.func72, Tryd.ntmps72
  by_cases hn : 0 ≤ n
  · rw [if_pos hn] at hz
    have t1 : decide (n < 0) = false := decide_eq_false (by omega)
    have t2 : ¬ n < 0 := by omega
    have e1 : n % 18446744073709551616 = n := by omega
    have e1b : IntKind.u64.wrap n = n := by rw [IntKind.wrap_u64]; omega
    have e2 : IntKind.u64.wrap (n * 2) = z := by rw [IntKind.wrap_u64]; omega
    have e2b : (n * 2) % 18446744073709551616 = z := by omega
    clear hz
    go_wp2_with (first | (go_at_call 89; (with_reducible refine HA.out.mono ?_); rintro e w2 ⟨b', rfl, own2, gz⟩))
    go_ret
    exact ⟨_, rfl, own2, gz⟩
  · rw [if_neg hn] at hz
    have t1 : decide (n < 0) = true := decide_eq_true (by omega)
    have t2 : n < 0 := by omega
    obtain ⟨k, ek⟩ : ∃ k : Nat, -(n + 1) = (k : Int) := ⟨(-(n + 1)).toNat, by omega⟩
    have e0 : IntKind.i64.wrap (-(n + 1)) = (k : Int) := by rw [IntKind.wrap_i64]; omega
    have e1 : (k : Int) % 18446744073709551616 = k := by omega
    have e1b : IntKind.u64.wrap (k : Int) = k := by rw [IntKind.wrap_u64]; omega
    have e2 : IntKind.u64.wrap ((k : Int) * 2) = (k : Int) * 2 := by rw [IntKind.wrap_u64]; omega
    have e3 : IntKind.u64.wrap ((k : Int) * 2 + 1) = z := by rw [IntKind.wrap_u64]; omega
    have e3b : (k : Int) * 2 + 1 = z := by omega
    clear hz
    go_wp2_with (first | (go_at_call 89; (with_reducible refine HA.out.mono ?_); rintro e w2 ⟨b', rfl, own2, gz⟩))
    go_ret
    exact ⟨_, rfl, own2, gz⟩
set_option maxHeartbeats 4000000 in
set_option maxRecDepth 100000 in
theorem c_appendSigned (L : List UInt8) (b : Value) (n : Int) (base : Nat) (h0 : -9223372036854775808 ≤ n) (h1 : n < 9223372036854775808) (W : World) (hL : L.length ≤ 100000) (hb : base ≤ W.heap.size) (hO : Own W base b L) :
    Calls Tryd.prog 88 #[b, .int .i64 n] W fun e w' => ∃ b', e = .returned b' ∧ Own w' base b' (L ++ Ec.vr (zz n)) ∧ Grown W w' b b' := by
  have A := c_appendVarint L b (zz n) base (zz_wd h0 h1) W hL hb hO
  have hz : (zz n : Int) = if 0 ≤ n then 2 * n else -2 * n - 1 := by unfold zz; split <;> omega
  obtain ⟨z, ez⟩ : ∃ z, z = zz n := ⟨_, rfl⟩
  rw [← ez] at A hz
  rw [← ez]
  clear ez
  have HA := Lib.hid A
  clear A
  go_enter Tryd.func88, Tryd.ntmps88
  obtain ⟨c, ec⟩ : ∃ c : Nat, (c : Int) = IntKind.u64.wrap n := ⟨(n % 18446744073709551616).toNat, by rw [IntKind.wrap_u64]; omega⟩
  obtain ⟨s, es⟩ : ∃ s : Nat, (s : Int) = IntKind.u64.wrap ((c : Int) * 2) := ⟨(c * 2 % 18446744073709551616), by rw [IntKind.wrap_u64]; omega⟩
  rw [IntKind.wrap_u64] at ec es
  have ws : Wd s := by unfold Wd; omega
  have e1 : n % 18446744073709551616 = (c : Int) := by omega
  have e1b : IntKind.u64.wrap n = (c : Int) := by rw [IntKind.wrap_u64]; omega
  have e2 : IntKind.u64.wrap ((c : Int) * 2) = s := by rw [IntKind.wrap_u64]; omega
  have e2b : IntKind.u64.wrap ((c : Int) * 2 ^ 1) = s := by rw [IntKind.wrap_u64]; omega
  have e2c : (c : Int) * 2 % 18446744073709551616 = s := by omega
  by_cases hn : 0 ≤ n
  · rw [if_pos hn] at hz
    have f1 : n / 9223372036854775808 = 0 := by omega
    have f2 : bits BinOp.xor IntKind.u64 (s : Int) 0 = z := by rw [xor0 s ws]; omega
    clear hz ec es
    go_wp2_with (first | (go_at_call 100; (with_reducible refine HA.out.mono ?_); rintro e w2 ⟨b', rfl, own2, gz⟩))
    go_ret
    exact ⟨_, rfl, own2, gz⟩
  · rw [if_neg hn] at hz
    obtain ⟨g, eg⟩ : ∃ g : Int, g = -1 := ⟨_, rfl⟩
    obtain ⟨m, em⟩ : ∃ m : Int, m = 18446744073709551615 := ⟨_, rfl⟩
    have f1 : n / 9223372036854775808 = g := by omega
    have f1b : g % 18446744073709551616 = m := by omega
    have f1c : IntKind.u64.wrap g = m := by rw [IntKind.wrap_u64]; omega
    have f2 : bits BinOp.xor IntKind.u64 (s : Int) m = z := by rw [em, xor1 s ws]; omega
    clear hz ec es eg em
    go_wp2_with (first | (go_at_call 100; (with_reducible refine HA.out.mono ?_); rintro e w2 ⟨b', rfl, own2, gz⟩))
    go_ret
    exact ⟨_, rfl, own2, gz⟩
set_option maxHeartbeats 4000000 in
set_option maxRecDepth 100000 in
theorem c_Signed (n : Int) (h0 : -9223372036854775808 ≤ n) (h1 : n < 9223372036854775808) (W : World) :
    Calls Tryd.prog 71 #[.int .i64 n] W fun e w' => ∃ b', e = .returned b' ∧ Own w' W.heap.size b' (Ec.vr (zz n)) ∧ Gr W w' := by
  have A := c_appendSigned [] (.slice none 0 0) n W.heap.size h0 h1 W (by simp) (Nat.le_refl _) (own_nil _ _)
  have HA := Lib.hid A
  clear A
  go_enter Tryd.func71, Tryd.ntmps71
  go_wp2_with (first | (go_at_call 88; (with_reducible refine HA.out.mono ?_); rintro e w2 ⟨b', rfl, own2, gz⟩))
  go_ret
  exact ⟨_, rfl, own2, gz.nil⟩
end Go.Proofs.YtlkciinhhagjiaaDoor
namespace Go.Proofs.YtlkciinhhagjiaaDoor.Ec
set_option linter.unusedVariables false

/-- What the byte c at i adds to a number. -/
def stp (acc c i : Nat) : Nat := acc ||| ((c % 128) * 2 ^ (7 * i)) % 18446744073709551616
/-- The number that bytes (of length n, read by f) begin with, and how many they are, from the byte i: k bytes at most. -/
def uv (f : Nat → Nat) (n : Nat) : Nat → Nat → Nat → Nat × Nat
  | 0, _, _ => (0, 0)
  | k + 1, i, acc =>
    if i < n then
      if (i = 9 ∧ 1 < f i) ∨ (0 < i ∧ f i = 0) then (0, 0)
      else if f i < 128 then (stp acc (f i) i, i + 1)
      else uv f n k (i + 1) (stp acc (f i) i)
    else (0, 0)
theorem stp_wd {acc c i : Nat} (h : acc < 18446744073709551616) : stp acc c i < 18446744073709551616 := by
  unfold stp
  exact Nat.or_lt_two_pow (n := 64) (by omega) (Nat.mod_lt _ (by decide))
theorem uv_end (f : Nat → Nat) (n k i acc : Nat) (h : ¬ i < n) : uv f n k i acc = (0, 0) := by
  cases k with
  | zero => rfl
  | succ k => rw [uv, if_neg h]
theorem uv_bad (f : Nat → Nat) (n k i acc : Nat) (h : (i = 9 ∧ 1 < f i) ∨ (0 < i ∧ f i = 0)) : uv f n k i acc = (0, 0) := by
  cases k with
  | zero => rfl
  | succ k =>
    rw [uv]
    by_cases hi : i < n
    · rw [if_pos hi, if_pos h]
    · rw [if_neg hi]
theorem uv_last (f : Nat → Nat) (n k i acc : Nat) (hi : i < n) (h : ¬ ((i = 9 ∧ 1 < f i) ∨ (0 < i ∧ f i = 0))) (hc : f i < 128) : uv f n (k + 1) i acc = (stp acc (f i) i, i + 1) := by
  rw [uv, if_pos hi, if_neg h, if_pos hc]
theorem uv_more (f : Nat → Nat) (n k i acc : Nat) (hi : i < n) (h : ¬ ((i = 9 ∧ 1 < f i) ∨ (0 < i ∧ f i = 0))) (hc : ¬ f i < 128) : uv f n (k + 1) i acc = uv f n k (i + 1) (stp acc (f i) i) := by
  rw [uv, if_pos hi, if_neg h, if_neg hc]
theorem uv_wd (f : Nat → Nat) (n : Nat) : ∀ k i acc, acc < 18446744073709551616 → (uv f n k i acc).1 < 18446744073709551616 ∧ (uv f n k i acc).2 ≤ i + k ∧ ((uv f n k i acc).2 = 0 → (uv f n k i acc).1 = 0) := by
  intro k
  induction k with
  | zero => intro i acc h; exact ⟨by show 0 < _; decide, Nat.zero_le _, fun _ => rfl⟩
  | succ k ih =>
    intro i acc h
    by_cases hi : i < n
    · by_cases hb : (i = 9 ∧ 1 < f i) ∨ (0 < i ∧ f i = 0)
      · rw [uv_bad f n _ i acc hb]; exact ⟨by show 0 < _; decide, Nat.zero_le _, fun _ => rfl⟩
      · by_cases hc : f i < 128
        · rw [uv_last f n k i acc hi hb hc]
          exact ⟨stp_wd h, by show i + 1 ≤ _; omega, fun e => absurd e (by show i + 1 ≠ 0; omega)⟩
        · rw [uv_more f n k i acc hi hb hc]
          have := ih (i + 1) _ (stp_wd (c := f i) (i := i) h)
          exact ⟨this.1, by have := this.2.1; omega, this.2.2⟩
    · rw [uv_end f n _ i acc hi]; exact ⟨by show 0 < _; decide, Nat.zero_le _, fun _ => rfl⟩
end Go.Proofs.YtlkciinhhagjiaaDoor.Ec
namespace Go.Proofs.YtlkciinhhagjiaaDoor
set_option linter.unusedVariables false
open Go.ChangeShapes Go.WideShapes Go.ChangeAt Go.RowKit

theorem step_word (acc c i : Nat) (ha : Wd acc) (hc : c < 256) : bits BinOp.or IntKind.u64 (acc : Int) (IntKind.u64.wrap (IntKind.u64.wrap (bits BinOp.and IntKind.u8 (c : Int) 127) * 2 ^ (7 * i))) = ((Ec.stp acc c i : Nat) : Int) := by
  have e := (bits_nat .u8 8 (by decide) (fun n h0 h1 => wraps_u8 n h0 h1) c 127 (by omega) (by omega)).1
  rw [show c &&& 127 = c % 128 from Nat.and_two_pow_sub_one_eq_mod c 7] at e
  have e' : bits BinOp.and IntKind.u8 (c : Int) 127 = ((c % 128 : Nat) : Int) := e
  rw [e', show IntKind.u64.wrap ((c % 128 : Nat) : Int) = ((c % 128 : Nat) : Int) by rw [IntKind.wrap_u64]; omega]
  have e2 : IntKind.u64.wrap (((c % 128 : Nat) : Int) * 2 ^ (7 * i)) = (((c % 128) * 2 ^ (7 * i) % 18446744073709551616 : Nat) : Int) := by
    rw [show ((c % 128 : Nat) : Int) * 2 ^ (7 * i) = ((c % 128 * 2 ^ (7 * i) : Nat) : Int) by rw [Int.natCast_mul, Int.natCast_pow]; rfl, IntKind.wrap_u64]
    exact (Int.natCast_emod _ _).symm
  rw [e2]
  unfold Wd at ha
  exact (bits_nat .u64 64 (by decide) (fun n h0 h1 => by rw [IntKind.wrap_u64]; omega) acc _ (by omega) (by omega)).2
set_option maxHeartbeats 4000000 in
set_option maxRecDepth 100000 in
theorem c_rUnvarint (n cap : Nat) (f : Nat → Nat) (ad : Option Addr) (B off : Nat) (hA : 0 < n → ad = some ⟨B, off, none⟩) (W : World) (hn : n ≤ 100000) (hf : ∀ j, j < n → f j < 256) (hR : ∀ j, j < n → W.cell? ⟨B, off + j, none⟩ = some (.int .u8 (f j))) :
    Calls Tryd.prog 87 #[.slice ad n cap] W fun e w' => e = .returned (.tuple #[.int .u64 (Ec.uv f n 10 0 0).1, .int .i64 (Ec.uv f n 10 0 0).2]) ∧ Gr W w' := by
  have HR := Lib.hid hR
  have HF := Lib.hid hf
  have HAD := Lib.hid hA
  clear hR hf hA
  go_enter Tryd.func87, Tryd.ntmps87
  go_wp2_with fail
  go_loopg [4, 5] 11 (fun k x y wr => ∃ (i acc : Nat), x = .int .u64 acc ∧ y = .int .i64 i ∧ i + k = 11 ∧ i ≤ 10 ∧ Wd acc ∧ Ec.uv f n 10 0 0 = Ec.uv f n (10 - i) i acc ∧ Gr W wr)
  case atStart => exact ⟨0, 0, rfl, rfl, rfl, by omega, by unfold Wd; omega, rfl, by go_grown⟩
  case round =>
    obtain ⟨i, acc, rfl, rfl, hk, hi, hw, hE, gwr⟩ := hrel
    have HE := Lib.hid hE
    have HW := Lib.hid hw
    clear hE hw
    by_cases hin : i < n
    · have t1 : decide ((i : Int) < (n : Int)) = true := decide_eq_true (by omega)
      have t2 : (i : Int) < (n : Int) := by omega
      by_cases h10 : i < 10
      · have t3 : decide ((i : Int) < 10) = true := decide_eq_true (by omega)
        have t4 : (i : Int) < 10 := by omega
        have cc := cell_gr gwr (HR.out i hin)
        have c256 := HF.out i hin
        obtain rfl := HAD.out (by omega)
        have u0 := Ec.uv_bad f n (10 - i) i acc
        have u1 := Ec.uv_last f n (9 - i) i acc hin
        have u2 := Ec.uv_more f n (9 - i) i acc hin
        rw [show 9 - i + 1 = 10 - i by omega] at u1 u2
        obtain ⟨c, ec⟩ : ∃ c, c = f i := ⟨_, rfl⟩
        rw [← ec] at cc c256 u0 u1 u2
        have HU := Lib.hid (And.intro u0 (And.intro u1 u2))
        clear u0 u1 u2 ec HR HF HAD
        have sw := step_word acc c i HW.out c256
        have ws := Ec.stp_wd (c := c) (i := i) HW.out
        obtain ⟨z, ez⟩ : ∃ z, z = Ec.stp acc c i := ⟨_, rfl⟩
        rw [← ez] at sw ws HU
        have HZ := Lib.hid ws
        clear ws ez
        have sw9 : i = 9 → bits BinOp.or IntKind.u64 (acc : Int) (IntKind.u64.wrap (IntKind.u64.wrap (bits BinOp.and IntKind.u8 (c : Int) 127) * 9223372036854775808)) = (z : Int) := by
          intro e
          rw [← sw, e]
          rfl
        have cc9 : i = 9 → wr.cell? ⟨B, off + 9, none⟩ = some (.int .u8 c) := by
          intro e
          rw [← e]
          exact cc
        by_cases i9 : i = 9
        · have sw9' := sw9 i9
          have cc9' := cc9 i9
          clear sw9 cc9
          have b1 : ((i : Int) == 9) = true := by simp; omega
          go_wp2_with fail
          all_goals (first
            | (go_ret2; (first | exact ⟨by rw [HE.out, HU.out.1 (by omega)]; rfl, gwr⟩ | exact ⟨by rw [HE.out, HU.out.2.1 (by omega) (by omega)]; rfl, gwr⟩ | exact ⟨by rw [HE.out, HU.out.2.1 (by omega) (by omega)]; simp; omega, gwr⟩))
            | (go_roundg (11 - (i + 1)); (case measure => omega); (case rel => exact ⟨i + 1, z, rfl, by go_num, by omega, by omega, HZ.out, by rw [HE.out, HU.out.2.2 (by omega) (by omega), show 10 - (i + 1) = 9 - i by omega], gwr⟩))
            | fail)
        · have b1 : ((i : Int) == 9) = false := by simp; omega
          clear sw9 cc9
          go_wp2_with fail
          all_goals (first
            | (go_ret2; (first | exact ⟨by rw [HE.out, HU.out.1 (by omega)]; rfl, gwr⟩ | exact ⟨by rw [HE.out, HU.out.2.1 (by omega) (by omega)]; rfl, gwr⟩ | exact ⟨by rw [HE.out, HU.out.2.1 (by omega) (by omega)]; simp; omega, gwr⟩))
            | (go_roundg (11 - (i + 1)); (case measure => omega); (case rel => exact ⟨i + 1, z, rfl, by go_num, by omega, by omega, HZ.out, by rw [HE.out, HU.out.2.2 (by omega) (by omega), show 10 - (i + 1) = 9 - i by omega], gwr⟩))
            | fail)
      · have t3 : decide ((i : Int) < 10) = false := decide_eq_false (by omega)
        have t4 : ¬ (i : Int) < 10 := by omega
        have e10 : 10 - i = 0 := by omega
        go_wp2_with fail
        go_ret2
        exact ⟨by rw [HE.out, e10]; rfl, gwr⟩
    · have t1 : decide ((i : Int) < (n : Int)) = false := decide_eq_false (by omega)
      have t2 : ¬ (i : Int) < (n : Int) := by omega
      have eu := Ec.uv_end f n (10 - i) i acc hin
      go_wp2_with fail
      go_ret2
      exact ⟨by rw [HE.out, eu]; rfl, gwr⟩
end Go.Proofs.YtlkciinhhagjiaaDoor
namespace Go.Proofs.YtlkciinhhagjiaaDoor
set_option linter.unusedVariables false
open Go.ChangeShapes Go.WideShapes Go.ChangeAt Go.RowKit

set_option maxHeartbeats 4000000 in
set_option maxRecDepth 100000 in
theorem c_Unvarint (n cap : Nat) (f : Nat → Nat) (ad : Option Addr) (B off : Nat) (hA : 0 < n → ad = some ⟨B, off, none⟩) (W : World) (hn : n ≤ 100000) (hcap : n ≤ cap) (hf : ∀ j, j < n → f j < 256) (hR : ∀ j, j < n → W.cell? ⟨B, off + j, none⟩ = some (.int .u8 (f j))) :
    Calls Tryd.prog 85 #[.slice ad n cap] W fun e w' => e = .returned (.tuple #[.int .u64 (Ec.uv f n 10 0 0).1, .int .i64 (Ec.uv f n 10 0 0).2]) ∧ Gr W w' := by
  have HR := Lib.hid hR
  have HF := Lib.hid hf
  have HAD := Lib.hid hA
  clear hR hf hA
  obtain ⟨m, em⟩ : ∃ m, m = min n 10 := ⟨_, rfl⟩
  have hm : min (n : Int) 10 = (m : Int) := by omega
  have hmc : (m : Int) ≤ (cap : Int) := by omega
  have hmc2 : m ≤ cap := by omega
  have hmn : m ≤ n := by omega
  have hm0 : (0 : Int) ≤ (m : Int) := by omega
  have HM := Lib.hid em
  clear em
  go_enter Tryd.func85, Tryd.ntmps85
  go_wp2_with fail
  go_loopg [2, 12] 11 (fun k x y wr => ∃ (i acc : Nat), x = .int .u64 acc ∧ y = .int .i64 i ∧ i + k = 11 ∧ i ≤ 10 ∧ Wd acc ∧ Ec.uv f n 10 0 0 = Ec.uv f n (10 - i) i acc ∧ Gr W wr)
  case atStart => exact ⟨0, 0, rfl, rfl, rfl, by omega, by unfold Wd; omega, rfl, by go_grown⟩
  case round =>
    obtain ⟨i, acc, rfl, rfl, hk, hi, hw, hE, gwr⟩ := hrel
    have HE := Lib.hid hE
    have HW := Lib.hid hw
    clear hE hw
    by_cases him : i < m
    · have t1 : decide ((i : Int) < (m : Int)) = true := decide_eq_true (by omega)
      have t2 : (i : Int) < (m : Int) := by omega
      have hin : i < n := by omega
      have h10 : i < 10 := by have := HM.out; omega
      · have t3 : True := trivial
        have cc := cell_gr gwr (HR.out i hin)
        have c256 := HF.out i hin
        obtain rfl := HAD.out (by omega)
        have u0 := Ec.uv_bad f n (10 - i) i acc
        have u1 := Ec.uv_last f n (9 - i) i acc hin
        have u2 := Ec.uv_more f n (9 - i) i acc hin
        rw [show 9 - i + 1 = 10 - i by omega] at u1 u2
        obtain ⟨c, ec⟩ : ∃ c, c = f i := ⟨_, rfl⟩
        rw [← ec] at cc c256 u0 u1 u2
        have HU := Lib.hid (And.intro u0 (And.intro u1 u2))
        clear u0 u1 u2 ec HR HF HAD
        have sw := step_word acc c i HW.out c256
        have ws := Ec.stp_wd (c := c) (i := i) HW.out
        obtain ⟨z, ez⟩ : ∃ z, z = Ec.stp acc c i := ⟨_, rfl⟩
        rw [← ez] at sw ws HU
        have HZ := Lib.hid ws
        clear ws ez
        have sw9 : i = 9 → bits BinOp.or IntKind.u64 (acc : Int) (IntKind.u64.wrap (IntKind.u64.wrap (bits BinOp.and IntKind.u8 (c : Int) 127) * 9223372036854775808)) = (z : Int) := by
          intro e
          rw [← sw, e]
          rfl
        have cc9 : i = 9 → wr.cell? ⟨B, off + 9, none⟩ = some (.int .u8 c) := by
          intro e
          rw [← e]
          exact cc
        have bz : ((c : Int) == 0) = true → c = 0 := fun e => by simp at e; omega
        have bn : ((c : Int) == 0) = false → c ≠ 0 := fun e => by simp at e; omega
        have HB := Lib.hid (And.intro bz bn)
        clear bz bn
        by_cases i9 : i = 9
        · have sw9' := sw9 i9
          have cc9' := cc9 i9
          clear sw9 cc9
          have b1 : ((i : Int) == 9) = true := by simp; omega
          go_wp2_with fail
          all_goals (try (have q0 := HB.out.1 ‹((c : Int) == 0) = true›))
          all_goals (try (have q1 := HB.out.2 ‹((c : Int) == 0) = false›))
          all_goals (first
            | (go_ret2; (first | exact ⟨by rw [HE.out, HU.out.1 (by omega)]; rfl, gwr⟩ | exact ⟨by rw [HE.out, HU.out.2.1 (by omega) (by omega)]; rfl, gwr⟩ | exact ⟨by rw [HE.out, HU.out.2.1 (by omega) (by omega)]; simp; omega, gwr⟩))
            | (go_roundg (11 - (i + 1)); (case measure => omega); (case rel => exact ⟨i + 1, z, rfl, by go_num, by omega, by omega, HZ.out, by rw [HE.out, HU.out.2.2 (by omega) (by omega), show 10 - (i + 1) = 9 - i by omega], gwr⟩))
            | fail)
        · have b1 : ((i : Int) == 9) = false := by simp; omega
          clear sw9 cc9
          go_wp2_with fail
          all_goals (try (have q0 := HB.out.1 ‹((c : Int) == 0) = true›))
          all_goals (try (have q1 := HB.out.2 ‹((c : Int) == 0) = false›))
          all_goals (first
            | (go_ret2; (first | exact ⟨by rw [HE.out, HU.out.1 (by omega)]; rfl, gwr⟩ | exact ⟨by rw [HE.out, HU.out.2.1 (by omega) (by omega)]; rfl, gwr⟩ | exact ⟨by rw [HE.out, HU.out.2.1 (by omega) (by omega)]; simp; omega, gwr⟩))
            | (go_roundg (11 - (i + 1)); (case measure => omega); (case rel => exact ⟨i + 1, z, rfl, by go_num, by omega, by omega, HZ.out, by rw [HE.out, HU.out.2.2 (by omega) (by omega), show 10 - (i + 1) = 9 - i by omega], gwr⟩))
            | fail)
    · have t1 : decide ((i : Int) < (m : Int)) = false := decide_eq_false (by omega)
      have t2 : ¬ (i : Int) < (m : Int) := by omega
      have eu : Ec.uv f n (10 - i) i acc = (0, 0) := by
        by_cases hin : i < n
        · have e10 : 10 - i = 0 := by have := HM.out; omega
          rw [e10]; rfl
        · exact Ec.uv_end f n (10 - i) i acc hin
      go_wp2_with fail
      go_ret2
      exact ⟨by rw [HE.out, eu]; rfl, gwr⟩
end Go.Proofs.YtlkciinhhagjiaaDoor
namespace Go.Proofs.YtlkciinhhagjiaaDoor
set_option linter.unusedVariables false
open Go.ChangeShapes Go.WideShapes Go.ChangeAt Go.RowKit

/-- The number with a sign of one without. -/
def si (v : Nat) : Int := if v % 2 = 1 then -((v / 2 : Nat) : Int) - 1 else ((v / 2 : Nat) : Int)
theorem xori0 (a : Nat) (ha : a < 9223372036854775808) : bits BinOp.xor IntKind.i64 (a : Int) 0 = (a : Int) := by
  have h1 : (BitVec.ofInt 64 (a : Int)).toNat = a := by
    rw [BitVec.ofInt_natCast, BitVec.toNat_ofNat]; exact Nat.mod_eq_of_lt (by omega)
  show IntKind.i64.wrap ((BitVec.ofInt 64 (a : Int) ^^^ BitVec.ofInt 64 (0 : Int)).toNat : Int) = _
  rw [BitVec.toNat_xor, h1, show (BitVec.ofInt 64 (0 : Int)).toNat = 0 from rfl, Nat.xor_zero, IntKind.wrap_i64]
  omega
theorem xori1 (a : Nat) (ha : a < 9223372036854775808) : bits BinOp.xor IntKind.i64 (a : Int) (-1) = -(a : Int) - 1 := by
  show IntKind.i64.wrap ((BitVec.ofInt 64 (a : Int) ^^^ BitVec.ofInt 64 (-1 : Int)).toNat : Int) = _
  rw [show BitVec.ofInt 64 (-1 : Int) = BitVec.allOnes 64 from rfl, BitVec.xor_allOnes, BitVec.toNat_not, BitVec.ofInt_natCast, BitVec.toNat_ofNat, IntKind.wrap_i64]
  omega
theorem and1w (v : Nat) (hv : Wd v) : bits BinOp.and IntKind.u64 (v : Int) 1 = ((v % 2 : Nat) : Int) := by
  have e := (bits_nat .u64 64 (by decide) (fun n h0 h1 => by rw [IntKind.wrap_u64]; omega) v 1 (by unfold Wd at hv; omega) (by omega)).1
  rw [show v &&& 1 = v % 2 from Nat.and_two_pow_sub_one_eq_mod v 1] at e
  exact e
set_option maxHeartbeats 4000000 in
set_option maxRecDepth 100000 in
theorem c_Unsigned (n cap : Nat) (f : Nat → Nat) (ad : Option Addr) (B off : Nat) (hA : 0 < n → ad = some ⟨B, off, none⟩) (W : World) (hn : n ≤ 100000) (hcap : n ≤ cap) (hf : ∀ j, j < n → f j < 256) (hR : ∀ j, j < n → W.cell? ⟨B, off + j, none⟩ = some (.int .u8 (f j))) :
    Calls Tryd.prog 67 #[.slice ad n cap] W fun e w' => e = .returned (.tuple #[.int .i64 (si (Ec.uv f n 10 0 0).1), .int .i64 (Ec.uv f n 10 0 0).2, .bool (decide (0 < (Ec.uv f n 10 0 0).2))]) ∧ Gr W w' := by
  have A := c_Unvarint n cap f ad B off hA W hn hcap hf hR
  have ww := Ec.uv_wd f n 10 0 0 (by decide)
  obtain ⟨v, ev⟩ : ∃ v, v = (Ec.uv f n 10 0 0).1 := ⟨_, rfl⟩
  obtain ⟨s, es⟩ : ∃ s, s = (Ec.uv f n 10 0 0).2 := ⟨_, rfl⟩
  rw [← ev, ← es] at A ww
  rw [← ev, ← es]
  have hs : s ≤ 10 := by omega
  have hv : Wd v := ww.1
  have HA := Lib.hid A
  clear A ww ev es hA hR hf
  obtain ⟨h, eh⟩ : ∃ h, h = v / 2 := ⟨_, rfl⟩
  obtain ⟨b, eb⟩ : ∃ b, b = v % 2 := ⟨_, rfl⟩
  have hh : h < 9223372036854775808 := by unfold Wd at hv; omega
  have c1 : (v : Int) / 2 = (h : Int) := by omega
  have c2 : IntKind.i64.wrap (h : Int) = h := by rw [IntKind.wrap_i64]; omega
  have c3 : bits BinOp.and IntKind.u64 (v : Int) 1 = (b : Int) := by rw [and1w v hv, eb]
  have hb : b = 0 ∨ b = 1 := by omega
  obtain ⟨g, eg⟩ : ∃ g : Int, g = -(b : Int) := ⟨_, rfl⟩
  have c4 : IntKind.i64.wrap (b : Int) = b := by rw [IntKind.wrap_i64]; omega
  have c5 : IntKind.i64.wrap (-(b : Int)) = g := by rw [IntKind.wrap_i64]; omega
  have c5b : -(b : Int) = g := eg.symm
  have c5c : wrap64 g = g := by first | (unfold wrap64; omega) | (show IntKind.i64.wrap g = g; rw [IntKind.wrap_i64]; omega)
  have c6 : bits BinOp.xor IntKind.i64 (h : Int) g = si v := by
    unfold si
    rcases hb with h0 | h0
    · rw [if_neg (by omega), eg, h0]; show bits BinOp.xor IntKind.i64 (h : Int) 0 = _; rw [xori0 h hh, eh]
    · rw [if_pos (by omega), eg, h0]; show bits BinOp.xor IntKind.i64 (h : Int) (-1) = _; rw [xori1 h hh, eh]
  obtain ⟨q, eq⟩ : ∃ q, q = si v := ⟨_, rfl⟩
  rw [← eq] at c6
  rw [← eq]
  clear eq eh eb eg hb
  go_enter Tryd.func67, Tryd.ntmps67
  go_wp2_with (first | (go_at_call 85; (with_reducible refine HA.out.mono ?_); rintro e w2 ⟨rfl, gz⟩))
  go_ret3
  exact ⟨rfl, gz⟩
end Go.Proofs.YtlkciinhhagjiaaDoor
namespace Go.Proofs.YtlkciinhhagjiaaDoor
set_option linter.unusedVariables false
open Go.ChangeShapes Go.WideShapes Go.ChangeAt Go.RowKit

/-- A slice of bytes that reads as a list. -/
def Row (w : World) (v : Value) (L : List UInt8) : Prop :=
  ∃ (ad : Option Addr) (cap B off : Nat), v = .slice ad L.length cap ∧ L.length ≤ cap ∧ cap ≤ 9223372036854775807 ∧ (0 < L.length → ad = some ⟨B, off, none⟩) ∧ ∀ j (h : j < L.length), w.cell? ⟨B, off + j, none⟩ = some (bv L[j])
theorem row_gr {w w' : World} {v : Value} {L : List UInt8} (h : Row w v L) (g : Gr w w') : Row w' v L := by
  obtain ⟨ad, cap, B, off, h1, h2, h3, h4, h5⟩ := h
  exact ⟨ad, cap, B, off, h1, h2, h3, h4, fun j hj => cell_gr g (h5 j hj)⟩
theorem row_own {w : World} {base : Nat} {v : Value} {L : List UInt8} (h : Own w base v L) : Row w v L := by
  have hl := h.1
  rcases h.2 with ⟨rfl, h0⟩ | ⟨g, cap, cur, rfl, hb, hg, hn, hc, hs, ht⟩
  · have : L = [] := List.eq_nil_of_length_eq_zero h0
    subst this
    exact ⟨none, 0, 0, 0, rfl, Nat.le_refl _, by omega, fun h => absurd h (by simp), fun j hj => absurd hj (by simp)⟩
  · refine ⟨_, cap, g, 0, rfl, hn, by unfold maxLen at hc; omega, fun _ => rfl, fun j hj => ?_⟩
    have := World.ownsRow.cellAt h j (by omega)
    rw [Nat.zero_add, this, List.getElem?_map, List.getElem?_eq_getElem hj]
    rfl
/-- The row's bytes by their places. -/
def rb (L : List UInt8) (j : Nat) : Nat := (L.getD j 0).toNat
theorem rb_lt (L : List UInt8) (j : Nat) : rb L j < 256 := UInt8.toNat_lt _
theorem getD_at (L : List UInt8) {j : Nat} (h : j < L.length) : L.getD j 0 = L[j] := by
  rw [List.getD_eq_getElem?_getD, List.getElem?_eq_getElem h]; rfl
theorem rb_at (L : List UInt8) {j : Nat} (h : j < L.length) : bv L[j] = .int .u8 (rb L j : Nat) := by
  unfold bv rb
  rw [getD_at _ h]
theorem rb_eq {L M : List UInt8} (h : L.length = M.length) : L = M ↔ ∀ j, j < L.length → rb L j = rb M j := by
  constructor
  · rintro rfl j _; rfl
  · intro k
    refine List.ext_getElem h fun j h1 h2 => ?_
    have := k j h1
    unfold rb at this
    rw [getD_at _ h1, getD_at _ h2] at this
    exact UInt8.toNat_inj.1 this

set_option maxHeartbeats 2000000 in
set_option maxRecDepth 100000 in
theorem bytes_core (n ca cb : Nat) (f g : Nat → Nat) (ad bd : Option Addr) (B off C oc : Nat) (hA : 0 < n → ad = some ⟨B, off, none⟩) (hB : 0 < n → bd = some ⟨C, oc, none⟩) (W : World) (hn : n ≤ 1000000000) (h1 : n ≤ ca) (h2 : n ≤ cb)
    (hf : ∀ j, j < n → W.cell? ⟨B, off + j, none⟩ = some (.int .u8 (f j))) (hg : ∀ j, j < n → W.cell? ⟨C, oc + j, none⟩ = some (.int .u8 (g j))) (q : Bool) (hq : q = true ↔ ∀ j, j < n → f j = g j) :
    Calls Tryd.prog 21 #[.slice ad n ca, .slice bd n cb] W fun e w' => e = .returned (.bool q) ∧ Gr W w' := by
  have HF := Lib.hid hf
  have HG := Lib.hid hg
  have HA := Lib.hid hA
  have HB := Lib.hid hB
  have HQ := Lib.hid hq
  clear hf hg hA hB hq
  have t0 : (n != n) = false := by simp
  have t00 : ((n : Int) != (n : Int)) = false := by simp
  go_enter Tryd.func21, Tryd.ntmps21
  go_wp2_with fail
  go_loopg [5] n (fun k x wr => ∃ i : Nat, x = .int .i64 i ∧ i ≤ n ∧ k = n - i ∧ Hid (∀ j, j < i → f j = g j) ∧ Gr W wr)
  case atStart => exact ⟨0, rfl, Nat.zero_le _, by omega, Lib.hid (fun j h => absurd h (Nat.not_lt_zero _)), by go_grown⟩
  case round =>
    obtain ⟨i, rfl, hi, hk, HE, gw⟩ := hrel
    by_cases h : i < n
    · have ti : decide ((i : Int) < (n : Int)) = true := decide_eq_true (by omega)
      have ti2 : decide (i < n) = true := decide_eq_true h
      have tn : (i : Int) < (n : Int) := by omega
      have tnn : (i : Int) < (ca : Int) := by omega
      have t0 : (0 : Int) ≤ (i : Int) := by omega
      obtain rfl := HA.out (by omega)
      obtain rfl := HB.out (by omega)
      have c0 := cell_gr gw (HF.out i h)
      have c1 := cell_gr gw (HG.out i h)
      obtain ⟨x, ex⟩ : ∃ x, x = f i := ⟨_, rfl⟩
      obtain ⟨y, ey⟩ : ∃ y, y = g i := ⟨_, rfl⟩
      rw [← ex] at c0
      rw [← ey] at c1
      by_cases hxy : x = y
      · have e : ∀ j, j < i + 1 → f j = g j := fun j hj => by
          by_cases hji : j = i
          · subst hji; rw [← ex, ← ey]; exact hxy
          · exact HE.out j (by omega)
        have HE2 := Lib.hid e
        clear e ex ey
        subst hxy
        have u1 : ((x : Int) != (x : Int)) = false := by simp
        have u2 : (x != x) = false := by simp
        go_wp2_with fail
        refine wp_region_spread (by kernel_rfl) (by kernel_rfl) ?_
        try simp only [List.append]
        repeat (first | go_big_quiet_skip | (go_big_quiet_want; go_big_quiet_op; (first | go_big_quiet_on | (apply Exists.intro; refine ⟨fun _ => ?_, ?_⟩; (· fail); go_big_quiet_on))))
        refine wpQuiet_nil ?_
        intro wr hr
        obtain ⟨mr, rfl⟩ := hr
        go_wp2_with fail
        go_roundg (n - (i + 1))
        case measure => omega
        case rel => exact ⟨i + 1, by go_num, by omega, rfl, HE2, Gr.trans gw (gr_spread _ _)⟩
      · have e : q = false := by
          cases q with
          | false => rfl
          | true => exact absurd (HQ.out.1 rfl i h) (by rw [← ex, ← ey]; exact hxy)
        subst e
        clear ex ey
        have u1 : ((x : Int) != (y : Int)) = true := by simp; omega
        have u2 : (x != y) = true := by simp; omega
        go_wp2_with fail
        refine wp_region_spread (by kernel_rfl) (by kernel_rfl) ?_
        try simp only [List.append]
        repeat (first | go_big_quiet_skip | (go_big_quiet_want; go_big_quiet_op; (first | go_big_quiet_on | (apply Exists.intro; refine ⟨fun _ => ?_, ?_⟩; (· fail); go_big_quiet_on))))
        refine wpQuiet_nil ?_
        intro wr hr
        obtain ⟨mr, rfl⟩ := hr
        go_wp2_with fail
        go_ret
        exact ⟨rfl, Gr.trans gw (gr_spread _ _)⟩
    · have e : i = n := by omega
      subst e
      have ti : decide ((i : Int) < (i : Int)) = false := decide_eq_false (by omega)
      obtain rfl : q = true := HQ.out.2 HE.out
      go_wp2_with fail
      go_ret
      exact ⟨rfl, gw⟩
/-- Two rows of bytes are told to be alike just if they are. -/
theorem c_Bytes {L M : List UInt8} {u v : Value} (W : World) (hu : Row W u L) (hv : Row W v M) (hl : L.length ≤ 1000000000) :
    Calls Tryd.prog 21 #[u, v] W fun e w' => e = .returned (.bool (decide (L = M))) ∧ Gr W w' := by
  obtain ⟨ad, ca, B, off, rfl, a1, a2, a3, a4⟩ := hu
  obtain ⟨bd, cb, C, oc, rfl, b1, b2, b3, b4⟩ := hv
  by_cases h : L.length = M.length
  · obtain ⟨n, hn⟩ : ∃ n, n = L.length := ⟨_, rfl⟩
    rw [← h]
    rw [← h] at b1 b3
    refine bytes_core L.length ca cb (rb L) (rb M) ad bd B off C oc a3 b3 W hl a1 b1 (fun j hj => by rw [← rb_at L hj]; exact a4 j hj) (fun j hj => by rw [← rb_at M (by omega)]; exact b4 j (by omega)) _ ?_
    rw [decide_eq_true_eq]
    exact rb_eq h
  · rw [decide_eq_false (fun e => h (by rw [e]))]
    obtain ⟨n, hn⟩ : ∃ n, n = L.length := ⟨_, rfl⟩
    obtain ⟨m, hm⟩ : ∃ m, m = M.length := ⟨_, rfl⟩
    rw [← hn, ← hm]
    rw [← hn, ← hm] at h
    have u1 : ((n : Int) != (m : Int)) = true := by simp; omega
    have u2 : (n != m) = true := by simp; omega
    clear a1 a3 a4 b1 b3 b4 hn hm h
    go_enter Tryd.func21, Tryd.ntmps21
    go_wp2_with fail
    go_ret
    exact ⟨rfl, by go_grown⟩
/-- The number that a row begins with. -/
def uL (L : List UInt8) : Nat × Nat := Ec.uv (rb L) L.length 10 0 0
theorem c_UnvarintL {L : List UInt8} {v : Value} (W : World) (h : Row W v L) (hl : L.length ≤ 100000) :
    Calls Tryd.prog 85 #[v] W fun e w' => e = .returned (.tuple #[.int .u64 (uL L).1, .int .i64 (uL L).2]) ∧ Gr W w' := by
  obtain ⟨ad, cap, B, off, rfl, h1, h2, h3, h4⟩ := h
  exact c_Unvarint L.length cap (rb L) ad B off h3 W hl h1 (fun j _ => rb_lt L j) (fun j hj => by rw [← rb_at L hj]; exact h4 j hj)
theorem c_UnsignedL {L : List UInt8} {v : Value} (W : World) (h : Row W v L) (hl : L.length ≤ 100000) :
    Calls Tryd.prog 67 #[v] W fun e w' => e = .returned (.tuple #[.int .i64 (si (uL L).1), .int .i64 (uL L).2, .bool (decide (0 < (uL L).2))]) ∧ Gr W w' := by
  obtain ⟨ad, cap, B, off, rfl, h1, h2, h3, h4⟩ := h
  exact c_Unsigned L.length cap (rb L) ad B off h3 W hl h1 (fun j _ => rb_lt L j) (fun j hj => by rw [← rb_at L hj]; exact h4 j hj)
end Go.Proofs.YtlkciinhhagjiaaDoor
namespace Go.Proofs.YtlkciinhhagjiaaDoor
set_option linter.unusedVariables false
open Go.ChangeShapes Go.WideShapes Go.ChangeAt Go.RowKit

theorem c_UnvarintR {L : List UInt8} {v : Value} (W : World) (h : Row W v L) (hl : L.length ≤ 100000) :
    Calls Tryd.prog 87 #[v] W fun e w' => e = .returned (.tuple #[.int .u64 (uL L).1, .int .i64 (uL L).2]) ∧ Gr W w' := by
  obtain ⟨ad, cap, B, off, rfl, h1, h2, h3, h4⟩ := h
  exact c_rUnvarint L.length cap (rb L) ad B off h3 W hl (fun j _ => rb_lt L j) (fun j hj => by rw [← rb_at L hj]; exact h4 j hj)
theorem uL_wd (L : List UInt8) : Wd (uL L).1 ∧ (uL L).2 ≤ 10 ∧ ((uL L).2 = 0 → (uL L).1 = 0) := by
  have := Ec.uv_wd (rb L) L.length 10 0 0 (by decide)
  exact ⟨this.1, by show (Ec.uv (rb L) L.length 10 0 0).2 ≤ 10; have := this.2.1; omega, this.2.2⟩
set_option maxHeartbeats 2000000 in
set_option maxRecDepth 100000 in
theorem c_rUnsigned {L : List UInt8} {v : Value} (W : World) (h : Row W v L) (hl : L.length ≤ 100000) :
    Calls Tryd.prog 70 #[v] W fun e w' => e = .returned (.tuple #[.int .i64 (si (uL L).1), .int .i64 (uL L).2, .bool (decide (0 < (uL L).2))]) ∧ Gr W w' := by
  have HA := Lib.hid (c_UnvarintR W h hl)
  obtain ⟨ww, hs, h0⟩ := uL_wd L
  obtain ⟨x, ex⟩ : ∃ x, x = (uL L).1 := ⟨_, rfl⟩
  obtain ⟨s, es⟩ : ∃ s, s = (uL L).2 := ⟨_, rfl⟩
  rw [← ex, ← es] at HA h0
  rw [← ex] at ww
  rw [← es] at hs
  rw [← ex, ← es]
  clear ex es h
  unfold Wd at ww
  by_cases hz : s = 0
  · subst hz
    obtain rfl := h0 rfl
    have e1 : si 0 = 0 := by unfold si; rw [if_neg (by omega)]; rfl
    have e2 : decide (0 < 0) = false := rfl
    rw [e1, e2]
    clear e1 e2 h0
    go_enter Tryd.func70, Tryd.ntmps70
    go_wp2_with (first | (go_at_call 87; (with_reducible refine HA.out.mono ?_); rintro e w2 ⟨rfl, gz⟩))
    go_ret3
    exact ⟨rfl, gz⟩
  · rw [decide_eq_true (show 0 < s by omega)]
    have b1 : ((s : Int) == 0) = false := by simp; omega
    have b2 : (s == 0) = false := by simp; omega
    obtain ⟨q, hq⟩ : ∃ q, q = x / 2 := ⟨_, rfl⟩
    have c1 : (x : Int) / 2 = (q : Int) := by omega
    have c1b : x / 2 = q := hq.symm
    have c2 : IntKind.i64.wrap (q : Int) = q := by rw [IntKind.wrap_i64]; omega
    have c2b : (q : Int) ≤ 9223372036854775807 := by omega
    by_cases hb : x % 2 = 1
    · have d1 : (x : Int) % 2 = 1 := by omega
      have e1 : si x = -(q : Int) - 1 := by unfold si; rw [if_pos hb, hq]
      obtain ⟨r, er⟩ : ∃ r : Int, r = -(q : Int) - 1 := ⟨_, rfl⟩
      rw [e1, ← er]
      have d2 : IntKind.i64.wrap (-(q : Int)) = -(q : Int) := by rw [IntKind.wrap_i64]; omega
      have d3 : IntKind.i64.wrap (-(q : Int) - 1) = r := by rw [IntKind.wrap_i64]; omega
      have d4 : wrap64 (-(q : Int)) = -(q : Int) := IntWalk.wrap64_in _ (by omega)
      have d5 : wrap64 (-(q : Int) - 1) = r := by rw [← er]; exact IntWalk.wrap64_in _ (by omega)
      have d6 : -(q : Int) - 1 = r := er.symm
      clear e1 er hq hb h0
      go_enter Tryd.func70, Tryd.ntmps70
      go_wp2_with (first | (go_at_call 87; (with_reducible refine HA.out.mono ?_); rintro e w2 ⟨rfl, gz⟩))
      go_ret3
      exact ⟨rfl, gz⟩
    · have d1 : (x : Int) % 2 = 0 := by omega
      have e1 : si x = (q : Int) := by unfold si; rw [if_neg hb, hq]
      rw [e1]
      clear e1 hq hb h0
      go_enter Tryd.func70, Tryd.ntmps70
      go_wp2_with (first | (go_at_call 87; (with_reducible refine HA.out.mono ?_); rintro e w2 ⟨rfl, gz⟩))
      go_ret3
      exact ⟨rfl, gz⟩
end Go.Proofs.YtlkciinhhagjiaaDoor
namespace Go.Proofs.YtlkciinhhagjiaaDoor
set_option linter.unusedVariables false
open Go.ChangeShapes Go.WideShapes Go.ChangeAt Go.RowKit

/-- The bytes of n points. -/
def ptsB (X Y : Nat → Int) : Nat → List UInt8
  | 0 => []
  | i + 1 => ptsB X Y i ++ Ec.vr (zz (X i)) ++ Ec.vr (zz (Y i))
/-- An int. -/
def Iw (z : Int) : Prop := -9223372036854775808 ≤ z ∧ z < 9223372036854775808
theorem Iw.lo {z : Int} (h : Iw z) : -9223372036854775808 ≤ z := h.1
theorem Iw.hi {z : Int} (h : Iw z) : z < 9223372036854775808 := h.2
theorem zz_len {z : Int} (h : Iw z) : 1 ≤ (Ec.vr (zz z)).length ∧ (Ec.vr (zz z)).length ≤ 10 := Ec.vr_len10 (zz_wd h.1 h.2)
theorem ptsB_len (X Y : Nat → Int) (h : ∀ i, Iw (X i) ∧ Iw (Y i)) (n : Nat) : (ptsB X Y n).length ≤ 20 * n := by
  induction n with
  | zero => simp [ptsB]
  | succ n ih =>
    simp only [ptsB, List.length_append]
    have h1 := (zz_len (h n).1).2
    have h2 := (zz_len (h n).2).2
    omega
theorem own_alloc {w : World} {base : Nat} {v : Value} {L : List UInt8} (h : Own w base v L) (o : Obj) : Own (w.alloc o) base v L := World.ownsRow.alloc h o
theorem Grown.drew {a b : World} {u v : Value} (h : Grown a b u v) : Grown a b.drew u v := ⟨⟨h.1.os, h.1.tape, h.1.output, h.1.size, h.1.block⟩, h.2⟩
end Go.Proofs.YtlkciinhhagjiaaDoor
