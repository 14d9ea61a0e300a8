/- numbers as bytes: plain facts; append onto a row of the call's own: where the new row lies; enc: numbers laid; enc: the document's Varint, and numbers with a sign; enc: numbers with a sign; enc: reading a number of bytes: plain facts; enc: the document's Unvarint; enc: Unvarint; enc: reading numbers with a sign; bytes that are read: rows of them, and whether two are alike; enc: objects laid; enc: objects laid: the loop over the points -/
import Derived.Test.YtpomllpplpalkaaGreatDoorK
import Derived.Laws.AppendOwn
import Derived.OwnWalk
import Derived.Laws.OwnMore
import Derived.Deep.RegionLaw
import Derived.Laws.Bits64b
import Derived.ArgAppend
import Derived.Deep.LoopGhost
import Derived.Maps.AppendAt
import Derived.Deep.RegionWith
namespace Go.Proofs.YtpomllpplpalkaaGreatDoor.Ec
set_option linter.unusedVariables false

def vr (v : Nat) : List UInt8 := if h : v < 128 then [UInt8.ofNat v] else UInt8.ofNat (v % 128 + 128) :: vr (v / 128)
termination_by v
decreasing_by omega
theorem vr_small {v : Nat} (h : v < 128) : vr v = [UInt8.ofNat v] := by rw [vr, dif_pos h]
theorem vr_big {v : Nat} (h : ¬ v < 128) : vr v = UInt8.ofNat (v % 128 + 128) :: vr (v / 128) := by rw [vr, dif_neg h]
theorem vr_len : ∀ (k v : Nat), v < 128 ^ k → 1 ≤ k → 1 ≤ (vr v).length ∧ (vr v).length ≤ k := by
  intro k
  induction k with
  | zero => intro v _ h; omega
  | succ k ih =>
    intro v hv _
    by_cases h : v < 128
    · rw [vr_small h]; simp
    · rw [vr_big h]
      rw [Nat.pow_succ] at hv
      have hk : 1 ≤ k := by
        rcases Nat.eq_zero_or_pos k with h0 | h0
        · subst h0; simp at hv; omega
        · exact h0
      have := ih (v / 128) (by omega) hk
      simp; omega
theorem vr_len10 {v : Nat} (h : v < 18446744073709551616) : 1 ≤ (vr v).length ∧ (vr v).length ≤ 10 := vr_len 10 v (Nat.lt_of_lt_of_le h (by decide)) (by omega)
set_option maxRecDepth 100000 in
theorem byte_or (v : Nat) : v % 256 ||| 128 = v % 128 + 128 := by
  have h1 : v % 256 % 128 = v % 128 := by omega
  have key : ∀ x, x < 256 → x ||| 128 = x % 128 + 128 := by decide
  rw [key _ (by omega), h1]
end Go.Proofs.YtpomllpplpalkaaGreatDoor.Ec
namespace Go.Proofs.YtpomllpplpalkaaGreatDoor
set_option linter.unusedVariables false
open Go.ChangeShapes Go.WideShapes Go.ChangeAt Go.RowKit

theorem gr_of_grown {w a b : World} {r : Option Nat} (h : Gr w a) (g : a.grownBy b r) (hr : ∀ k, r = some k → w.heap.size ≤ k) : Gr w b :=
  ⟨g.os.trans h.os, g.tape.trans h.tape, g.output.trans h.output, Nat.le_trans h.size g.size, fun k hk => (g.block k (Nat.lt_of_lt_of_le hk h.size) (fun e => by have := hr k e.symm; omega)).trans (h.block k hk)⟩
def Grown (w w' : World) (v v' : Value) : Prop := w.grownBy w' v.ownBlock ∧ ∀ k, v'.ownBlock = some k → v.ownBlock = some k ∨ w.heap.size ≤ k
theorem Grown.size {a b : World} {u v : Value} (h : Grown a b u v) : a.heap.size ≤ b.heap.size := h.1.size
theorem Grown.at {a b : World} {u v : Value} (h : Grown a b u v) : ∀ k, v.ownBlock = some k → u.ownBlock = some k ∨ a.heap.size ≤ k := h.2
theorem Grown.refl (w : World) (v : Value) : Grown w w v v := ⟨⟨rfl, rfl, rfl, Nat.le_refl _, fun _ _ _ => rfl⟩, fun k h => Or.inl h⟩
theorem Grown.trans {a b c : World} {u v x : Value} (h : Grown a b u v) (k : Grown b c v x) : Grown a c u x := by
  refine ⟨⟨k.1.os.trans h.1.os, k.1.tape.trans h.1.tape, k.1.output.trans h.1.output, Nat.le_trans h.1.size k.1.size, fun i hi hn => ?_⟩, fun i hi => ?_⟩
  · refine (k.1.block i (Nat.lt_of_lt_of_le hi h.1.size) fun e => ?_).trans (h.1.block i hi hn)
    rcases h.2 i e.symm with h1 | h1
    · exact hn h1.symm
    · omega
  · rcases k.2 i hi with h1 | h1
    · exact h.2 i h1
    · exact Or.inr (Nat.le_trans h.1.size h1)
theorem Grown.alloc {a b : World} {u v : Value} (h : Grown a b u v) (o : Obj) : Grown a (b.alloc o) u v :=
  h.trans ⟨World.grownBy_alloc b o _, fun k h => Or.inl h⟩
theorem Grown.gr {a b w0 : World} {u v : Value} (h : Grown a b u v) (g : Gr w0 a) (hr : ∀ k, u.ownBlock = some k → w0.heap.size ≤ k) : Gr w0 b := gr_of_grown g h.1 hr
theorem Grown.cell {a b : World} {u v : Value} (h : Grown a b u v) {p : Addr} {x : Value} (hc : a.cell? p = some x) (hn : ∀ k, u.ownBlock = some k → k ≠ p.block) : b.cell? p = some x :=
  h.1.cell hc (fun e => by cases hu : u.ownBlock with
    | none => rw [hu] at e; cases e
    | some k => rw [hu] at e; exact hn k hu (Option.some.inj e).symm)

section
variable {P : Program} (w : World)
theorem append_place (base : Nat) (t ty e : TypeId) (i : TypeInfo) (z : Value) (size bytes : Nat) (ht : P.underlying t = some (.slice e)) (hi : P.info? e = some i) (hz : i.zero = some z)
    (hsize : i.size = size) (hby : i.bytes = bytes) (v : Value) (n : Nat) (xs : List Value) (hown : w.ownsRow base e size v n xs)
    (a : Addr) (m c : Nat) (news : List Value) (hl : news.length = m * size) (hnews : ∀ j u, news[j]? = some u → w.cell? (a.add j) = some u) (h1 : ∀ u ∈ news, u.oneCell' = true)
    (h63 : n + m ≤ maxLen) (hbytes : (n + m) * bytes ≤ 140737488355328) {v' : Value} {w' : World} (hr : (Builtin.append_ #[t, t] ty #[v, .slice (some a) m c]).run P w = .ok v' w') :
    ∀ k, v'.ownBlock = some k → v.ownBlock = some k ∨ w.heap.size ≤ k := by
  subst hsize hby
  have hsmall : n + m ≤ 9223372036854775807 := by simp only [maxLen] at h63; omega
  rcases hown.2 with ⟨rfl, rfl⟩ | ⟨g, cap, cur, rfl, hbg, hg, hnc, hcm, hcs, htake⟩
  · by_cases hm : m = 0
    · subst hm
      have hn : news = [] := List.eq_nil_of_length_eq_zero (by simpa using hl)
      subst hn
      have e0 : (Builtin.append_ #[t, t] ty #[.slice none 0 0, .slice (some a) 0 c]).run P w = .ok (.slice none 0 0) w := by
        simp [Builtin.append_, run_underlying ht, sizeOf, typeInfo, hi, Builtin.lenOf, Builtin.firstCells, loadCells, loadCellsFrom]
      rw [e0] at hr
      cases hr
      intro k hk
      cases hk
    · rw [run_append_nil (P := P) w t ty e i z ht hi hz a m c news hl hnews (by omega) (by omega) (by have hb := hbytes; simp only [Nat.zero_add] at hb; omega)] at hr
      cases hr
      intro k hk
      simp [Value.ownBlock] at hk
      omega
  · by_cases hroom : n + m ≤ cap
    · have hfit : n * i.size + news.length ≤ cur.size := by rw [hl, hcs, ← Nat.add_mul]; exact Nat.mul_le_mul_right _ hroom
      rw [run_append_room (P := P) w t ty e i ht hi g n cap cur hg a m c news hl hnews h1 hroom hfit] at hr
      cases hr
      intro k hk
      exact Or.inl hk
    · rw [run_append_grow (P := P) w t ty e i z ht hi hz ⟨g, 0, none⟩ n cap xs hown.1 (hown.cells (g := g) rfl) a m c news hl hnews (by omega) (by omega) (growslice_fits (by omega) hbytes)] at hr
      cases hr
      intro k hk
      simp [Value.ownBlock] at hk
      omega
theorem wpList_append_own2 {ops : Array Oper} {rest : List Oper} {o : Oper} {a : Act} {Q : Exit → Act → World → Prop} (hgd : o.guard = none) (s x : Operand) (t : TypeId)
    (ho : o.op = .call { callee := .builtin .append, args := #[s, x], argTypes := #[t, t] })
    (base : Nat) (e : TypeId) (i : TypeInfo) (z : Value) (size bytes : Nat) (ht : P.underlying t = some (.slice e)) (hi : P.info? e = some i) (hz : i.zero = some z)
    (hsize : i.size = size) (hby : i.bytes = bytes) (hzs : z.cells.size = size) (hsz : 0 < size)
    (v : Value) (n : Nat) (xs : List Value) (hs : a.eval s = v) (hown : w.ownsRow base e size v n xs)
    (ad : Addr) (m c : Nat) (news : List Value) (hx : a.eval x = .slice (some ad) m c) (hl : news.length = m * size) (hnews : ∀ j u, news[j]? = some u → w.cell? (ad.add j) = some u) (h1 : ∀ u ∈ news, u.oneCell' = true)
    (h63 : n + m ≤ maxLen) (hbytes : (n + m) * bytes ≤ 140737488355328) (hbase : base ≤ w.heap.size)
    (h : ∀ v' w', w'.ownsRow base e size v' (n + m) (xs ++ news) → Grown w w' v v' → wpList P ops Q rest (a.put o.dst v') w') : wpList P ops Q (o :: rest) a w := by
  refine wpList_plain hgd fun K hK => ?_
  obtain ⟨v', w', hr, h2, h3, h4⟩ := run_append_own (P := P) w base t o.type e i z size bytes ht hi hz hsize hby hzs hsz v n xs hown ad m c news hl hnews h1 h63 hbytes hbase
  have h5 := append_place (P := P) w base t o.type e i z size bytes ht hi hz hsize hby v n xs hown ad m c news hl hnews h1 h63 hbytes hr
  unfold Oper.wp execOp
  simp only [ho, resolve, invoke, builtin, Sem.run_bind, Sem.run_pure, Result.andThen_ok, List.map_toArray, List.map_cons, List.map_nil, hs, hx, hr]
  exact hK _ _ (h v' w' h2 ⟨h3, h5⟩)
end
theorem rowOwn_gr {a b : World} {base e size n : Nat} {v : Value} {xs : List Value} (h : a.ownsRow base e size v n xs) (g : Gr a b) : b.ownsRow base e size v n xs :=
  h.kept (row := none) ⟨g.os, g.tape, g.output, g.size, fun k hk _ => g.block k hk⟩ (by
    rcases hh : v.ownBlock with _ | k
    · exact Or.inl rfl
    · exact Or.inr (by simp))
end Go.Proofs.YtpomllpplpalkaaGreatDoor
namespace Go.Proofs.YtpomllpplpalkaaGreatDoor
set_option linter.unusedVariables false
open Go.ChangeShapes Go.WideShapes Go.ChangeAt Go.RowKit


def bv (c : UInt8) : Value := .int .u8 (c.toNat : Int)
def Own (w : World) (base : Nat) (v : Value) (L : List UInt8) : Prop := w.ownsRow base 5 1 v L.length (L.map bv)
theorem or128 (v : Nat) (hv : Wd v) : bits BinOp.or IntKind.u8 (((v % 256 : Nat) : Int)) 128 = ((v % 128 + 128 : Nat) : Int) := by
  have e := (bits_nat .u8 8 (by decide) (fun n h0 h1 => wraps_u8 n h0 h1) (v % 256) 128 (by omega) (by omega)).2
  rw [Ec.byte_or] at e
  exact e
theorem byte_eq {x : Nat} (h : x < 256) : bv (UInt8.ofNat x) = .int .u8 (x : Int) := by
  unfold bv
  rw [UInt8.toNat_ofNat']
  congr 1
  omega
theorem own_nil (W : World) (base : Nat) : Own W base (.slice none 0 0) [] := World.ownsRow_nil _ _ _ _
set_option maxHeartbeats 4000000 in
set_option maxRecDepth 100000 in
theorem c_appendVarint (L : List UInt8) (b : Value) (v base : Nat) (hv : Wd v) (W : World) (hL : L.length ≤ 100000) (hb : base ≤ W.heap.size) (hO : Own W base b L) :
    Calls Tryz.prog 196 #[b, .int .u64 v] W fun e w' => ∃ b', e = .returned b' ∧ Own w' base b' (L ++ Ec.vr v) ∧ Grown W w' b b' := by
  obtain ⟨i0, hi0, hz0, hz1, hz2⟩ := info_parts (P := Tryz.prog) (e := 5) (z := .int .u8 0) (size := 1) (bytes := 1) (by kernel_rfl)
  have HI := Lib.hid hi0
  have HZ0 := Lib.hid hz0
  have HZ1 := Lib.hid hz1
  have HZ2 := Lib.hid hz2
  have HO := Lib.hid hO
  have HV := Lib.hid hv
  clear hi0 hz0 hz1 hz2 hO hv
  go_enter Tryz.func196, Tryz.ntmps196
  go_wp2_with fail
  go_loopg [0, 1] v (fun k bb x wr => ∃ (L' : List UInt8) (y : Nat), x = .int .u64 y ∧ y ≤ k ∧ Wd y ∧ L ++ Ec.vr v = L' ++ Ec.vr y ∧ Own wr base bb L' ∧ W.heap.size ≤ wr.heap.size ∧ Grown W wr b bb)
  case atStart => exact ⟨L, v, rfl, Nat.le_refl _, HV.out, rfl, HO.out, Nat.le_refl _, Grown.refl _ _⟩
  case round =>
    obtain ⟨L', y, rfl, hyk, hy, hE, hOw, hsz, hg⟩ := hrel
    have hlen : L'.length ≤ 100010 := by
      have h := congrArg List.length hE
      rw [List.length_append, List.length_append] at h
      have := (Ec.vr_len10 HV.out).2
      omega
    have hbs : base ≤ wr.heap.size := Nat.le_trans hb hsz
    have HOw := Lib.hid hOw
    have HG := Lib.hid hg
    have HE := Lib.hid hE
    have HY := Lib.hid hy
    clear hOw hg hE hy
    obtain ⟨q, eq⟩ : ∃ q, q = y / 128 := ⟨_, rfl⟩
    have c7 : (y : Int) / 128 = (q : Int) := by omega
    have c7b : (y : Int) / 2 ^ 7 = (q : Int) := by rw [show ((2 : Int) ^ 7) = 128 from rfl]; omega
    have c7c : (y : Int) / 2 ^ min 7 64 = (q : Int) := by rw [Nat.min_eq_left (by decide)]; exact c7b
    have c7d : y / 128 = q := eq.symm
    have HQ := Lib.hid eq
    clear eq
    by_cases h128 : 128 ≤ y
    · have t1 : decide ((128 : Int) ≤ (y : Int)) = true := decide_eq_true (by omega)
      have t2 : (128 : Int) ≤ (y : Int) := by omega
      have t3 : decide (128 ≤ y) = true := decide_eq_true h128
      obtain ⟨B, eB⟩ : ∃ B : Int, B = ((y % 128 + 128 : Nat) : Int) := ⟨_, rfl⟩
      have co : bits BinOp.or IntKind.u8 ((y : Int) % 256) 128 = B := by
        have h := or128 y HY.out
        rw [← eB] at h
        rw [← h]
        congr 1
      have ce : bv (UInt8.ofNat (y % 128 + 128)) = .int .u8 B := by rw [eB]; exact byte_eq (x := y % 128 + 128) (by omega)
      have HC := Lib.hid ce
      clear ce eB
      go_wp2_with (first | (at_builtin; (refine wpList_append_own2 _ rfl (.tmp 7) (.tmp 11) 165 rfl base 5 i0 (.int .u8 0) 1 1 Tryz.underlying165 HI.out HZ0.out HZ1.out HZ2.out rfl (by decide) u0 L'.length (L'.map bv) rfl (World.ownsRow.alloc HOw.out _) ⟨wr.heap.size, 0, none⟩ 1 1 [.int .u8 B] rfl rfl (cell_one_new _ _ _) (by intro u hu; (simp at hu); subst hu; rfl) (by unfold maxLen; omega) (by omega) (by simp; omega) ?_); intro v1 w2 own2 grow2))
      have gz : Grown W w2 b v1 := (HG.out.alloc _).trans grow2
      have hz2 : wr.heap.size ≤ w2.heap.size := by
        have := grow2.1.size
        simp at this
        omega
      go_roundg q
      case measure => have := HQ.out; omega
      case rel =>
        refine ⟨L' ++ [UInt8.ofNat (y % 128 + 128)], q, rfl, Nat.le_refl _, ?_, ?_, ?_, Nat.le_trans hsz hz2, gz⟩
        · have := HY.out; have := HQ.out; unfold Wd at *; omega
        · rw [HE.out, Ec.vr_big (by omega), HQ.out, List.append_assoc]; rfl
        · unfold Own
          rw [List.length_append, List.map_append]
          rw [show [UInt8.ofNat (y % 128 + 128)].map bv = [.int .u8 B] from (by rw [← HC.out]; rfl)]
          exact own2
    · have t1 : decide ((128 : Int) ≤ (y : Int)) = false := decide_eq_false (by omega)
      have t2 : ¬ (128 : Int) ≤ (y : Int) := by omega
      have t3 : decide (128 ≤ y) = false := decide_eq_false h128
      have ce : bv (UInt8.ofNat y) = .int .u8 (y : Int) := byte_eq (by omega)
      have HC := Lib.hid ce
      clear ce
      go_wp2_with (first | (at_builtin; (refine wpList_append_own2 _ rfl (.tmp 15) (.tmp 18) 165 rfl base 5 i0 (.int .u8 0) 1 1 Tryz.underlying165 HI.out HZ0.out HZ1.out HZ2.out rfl (by decide) u0 L'.length (L'.map bv) rfl (World.ownsRow.alloc HOw.out _) ⟨wr.heap.size, 0, none⟩ 1 1 [.int .u8 (y : Int)] rfl rfl (cell_one_new _ _ _) (by intro u hu; (simp at hu); subst hu; rfl) (by unfold maxLen; omega) (by omega) (by simp; omega) ?_); intro v1 w2 own2 grow2))
      have gz : Grown W w2 b v1 := (HG.out.alloc _).trans grow2
      go_ret
      refine ⟨_, rfl, ?_, gz⟩
      unfold Own
      rw [HE.out, Ec.vr_small (by omega), List.length_append, List.map_append]
      simpa [HC.out] using own2
end Go.Proofs.YtpomllpplpalkaaGreatDoor
namespace Go.Proofs.YtpomllpplpalkaaGreatDoor
set_option linter.unusedVariables false
open Go.ChangeShapes Go.WideShapes Go.ChangeAt Go.RowKit

end Go.Proofs.YtpomllpplpalkaaGreatDoor
namespace Go.Proofs.YtpomllpplpalkaaGreatDoor
set_option linter.unusedVariables false
open Go.ChangeShapes Go.WideShapes Go.ChangeAt Go.RowKit

def zz (n : Int) : Nat := if 0 ≤ n then (2 * n).toNat else (-2 * n - 1).toNat
theorem zz_wd {n : Int} (h0 : -9223372036854775808 ≤ n) (h1 : n < 9223372036854775808) : Wd (zz n) := by
  unfold zz Wd; split <;> omega
theorem xor0 (a : Nat) (ha : Wd a) : bits BinOp.xor IntKind.u64 (a : Int) 0 = (a : Int) := by
  unfold Wd at ha
  have h1 : (BitVec.ofInt 64 (a : Int)).toNat = a := by
    rw [BitVec.ofInt_natCast, BitVec.toNat_ofNat]; exact Nat.mod_eq_of_lt (by omega)
  show IntKind.u64.wrap ((BitVec.ofInt 64 (a : Int) ^^^ BitVec.ofInt 64 (0 : Int)).toNat : Int) = _
  rw [BitVec.toNat_xor, h1, show (BitVec.ofInt 64 (0 : Int)).toNat = 0 from rfl, Nat.xor_zero, IntKind.wrap_u64]
  omega
theorem xor1 (a : Nat) (ha : Wd a) : bits BinOp.xor IntKind.u64 (a : Int) 18446744073709551615 = ((18446744073709551615 - a : Nat) : Int) := by
  unfold Wd at ha
  show IntKind.u64.wrap ((BitVec.ofInt 64 (a : Int) ^^^ BitVec.ofInt 64 (18446744073709551615 : Int)).toNat : Int) = _
  rw [show BitVec.ofInt 64 (18446744073709551615 : Int) = BitVec.allOnes 64 from rfl, BitVec.xor_allOnes, BitVec.toNat_not, BitVec.ofInt_natCast, BitVec.toNat_ofNat, IntKind.wrap_u64]
  omega
set_option maxHeartbeats 4000000 in
set_option maxRecDepth 100000 in
theorem c_appendSigned (L : List UInt8) (b : Value) (n : Int) (base : Nat) (h0 : -9223372036854775808 ≤ n) (h1 : n < 9223372036854775808) (W : World) (hL : L.length ≤ 100000) (hb : base ≤ W.heap.size) (hO : Own W base b L) :
    Calls Tryz.prog 225 #[b, .int .i64 n] W fun e w' => ∃ b', e = .returned b' ∧ Own w' base b' (L ++ Ec.vr (zz n)) ∧ Grown W w' b b' := by
  have A := c_appendVarint L b (zz n) base (zz_wd h0 h1) W hL hb hO
  have hz : (zz n : Int) = if 0 ≤ n then 2 * n else -2 * n - 1 := by unfold zz; split <;> omega
  obtain ⟨z, ez⟩ : ∃ z, z = zz n := ⟨_, rfl⟩
  rw [← ez] at A hz
  rw [← ez]
  clear ez
  have HA := Lib.hid A
  clear A
  go_enter Tryz.func225, Tryz.ntmps225
  obtain ⟨c, ec⟩ : ∃ c : Nat, (c : Int) = IntKind.u64.wrap n := ⟨(n % 18446744073709551616).toNat, by rw [IntKind.wrap_u64]; omega⟩
  obtain ⟨s, es⟩ : ∃ s : Nat, (s : Int) = IntKind.u64.wrap ((c : Int) * 2) := ⟨(c * 2 % 18446744073709551616), by rw [IntKind.wrap_u64]; omega⟩
  rw [IntKind.wrap_u64] at ec es
  have ws : Wd s := by unfold Wd; omega
  have e1 : n % 18446744073709551616 = (c : Int) := by omega
  have e1b : IntKind.u64.wrap n = (c : Int) := by rw [IntKind.wrap_u64]; omega
  have e2 : IntKind.u64.wrap ((c : Int) * 2) = s := by rw [IntKind.wrap_u64]; omega
  have e2b : IntKind.u64.wrap ((c : Int) * 2 ^ 1) = s := by rw [IntKind.wrap_u64]; omega
  have e2c : (c : Int) * 2 % 18446744073709551616 = s := by omega
  by_cases hn : 0 ≤ n
  · rw [if_pos hn] at hz
    have f1 : n / 9223372036854775808 = 0 := by omega
    have f2 : bits BinOp.xor IntKind.u64 (s : Int) 0 = z := by rw [xor0 s ws]; omega
    clear hz ec es
    go_wp2_with (first | (go_at_call 196; (with_reducible refine HA.out.mono ?_); rintro e w2 ⟨b', rfl, own2, gz⟩))
    go_ret
    exact ⟨_, rfl, own2, gz⟩
  · rw [if_neg hn] at hz
    obtain ⟨g, eg⟩ : ∃ g : Int, g = -1 := ⟨_, rfl⟩
    obtain ⟨m, em⟩ : ∃ m : Int, m = 18446744073709551615 := ⟨_, rfl⟩
    have f1 : n / 9223372036854775808 = g := by omega
    have f1b : g % 18446744073709551616 = m := by omega
    have f1c : IntKind.u64.wrap g = m := by rw [IntKind.wrap_u64]; omega
    have f2 : bits BinOp.xor IntKind.u64 (s : Int) m = z := by rw [em, xor1 s ws]; omega
    clear hz ec es eg em
    go_wp2_with (first | (go_at_call 196; (with_reducible refine HA.out.mono ?_); rintro e w2 ⟨b', rfl, own2, gz⟩))
    go_ret
    exact ⟨_, rfl, own2, gz⟩
end Go.Proofs.YtpomllpplpalkaaGreatDoor
namespace Go.Proofs.YtpomllpplpalkaaGreatDoor.Ec
set_option linter.unusedVariables false

end Go.Proofs.YtpomllpplpalkaaGreatDoor.Ec
namespace Go.Proofs.YtpomllpplpalkaaGreatDoor
set_option linter.unusedVariables false
open Go.ChangeShapes Go.WideShapes Go.ChangeAt Go.RowKit

end Go.Proofs.YtpomllpplpalkaaGreatDoor
namespace Go.Proofs.YtpomllpplpalkaaGreatDoor
set_option linter.unusedVariables false
open Go.ChangeShapes Go.WideShapes Go.ChangeAt Go.RowKit

end Go.Proofs.YtpomllpplpalkaaGreatDoor
namespace Go.Proofs.YtpomllpplpalkaaGreatDoor
set_option linter.unusedVariables false
open Go.ChangeShapes Go.WideShapes Go.ChangeAt Go.RowKit

end Go.Proofs.YtpomllpplpalkaaGreatDoor
namespace Go.Proofs.YtpomllpplpalkaaGreatDoor
set_option linter.unusedVariables false
open Go.ChangeShapes Go.WideShapes Go.ChangeAt Go.RowKit

def Row (w : World) (v : Value) (L : List UInt8) : Prop :=
  ∃ (ad : Option Addr) (cap B off : Nat), v = .slice ad L.length cap ∧ L.length ≤ cap ∧ cap ≤ 9223372036854775807 ∧ (0 < L.length → ad = some ⟨B, off, none⟩) ∧ ∀ j (h : j < L.length), w.cell? ⟨B, off + j, none⟩ = some (bv L[j])
theorem row_own {w : World} {base : Nat} {v : Value} {L : List UInt8} (h : Own w base v L) : Row w v L := by
  have hl := h.1
  rcases h.2 with ⟨rfl, h0⟩ | ⟨g, cap, cur, rfl, hb, hg, hn, hc, hs, ht⟩
  · have : L = [] := List.eq_nil_of_length_eq_zero h0
    subst this
    exact ⟨none, 0, 0, 0, rfl, Nat.le_refl _, by omega, fun h => absurd h (by simp), fun j hj => absurd hj (by simp)⟩
  · refine ⟨_, cap, g, 0, rfl, hn, by unfold maxLen at hc; omega, fun _ => rfl, fun j hj => ?_⟩
    have := World.ownsRow.cellAt h j (by omega)
    rw [Nat.zero_add, this, List.getElem?_map, List.getElem?_eq_getElem hj]
    rfl
end Go.Proofs.YtpomllpplpalkaaGreatDoor
namespace Go.Proofs.YtpomllpplpalkaaGreatDoor
set_option linter.unusedVariables false
open Go.ChangeShapes Go.WideShapes Go.ChangeAt Go.RowKit

end Go.Proofs.YtpomllpplpalkaaGreatDoor
namespace Go.Proofs.YtpomllpplpalkaaGreatDoor
set_option linter.unusedVariables false
open Go.ChangeShapes Go.WideShapes Go.ChangeAt Go.RowKit

def ptsB (X Y : Nat → Int) : Nat → List UInt8
  | 0 => []
  | i + 1 => ptsB X Y i ++ Ec.vr (zz (X i)) ++ Ec.vr (zz (Y i))
def Iw (z : Int) : Prop := -9223372036854775808 ≤ z ∧ z < 9223372036854775808
theorem Iw.lo {z : Int} (h : Iw z) : -9223372036854775808 ≤ z := h.1
theorem Iw.hi {z : Int} (h : Iw z) : z < 9223372036854775808 := h.2
theorem zz_len {z : Int} (h : Iw z) : 1 ≤ (Ec.vr (zz z)).length ∧ (Ec.vr (zz z)).length ≤ 10 := Ec.vr_len10 (zz_wd h.1 h.2)
theorem ptsB_len (X Y : Nat → Int) (h : ∀ i, Iw (X i) ∧ Iw (Y i)) (n : Nat) : (ptsB X Y n).length ≤ 20 * n := by
  induction n with
  | zero => simp [ptsB]
  | succ n ih =>
    simp only [ptsB, List.length_append]
    have h1 := (zz_len (h n).1).2
    have h2 := (zz_len (h n).2).2
    omega
theorem own_alloc {w : World} {base : Nat} {v : Value} {L : List UInt8} (h : Own w base v L) (o : Obj) : Own (w.alloc o) base v L := World.ownsRow.alloc h o
theorem Grown.drew {a b : World} {u v : Value} (h : Grown a b u v) : Grown a b.drew u v := ⟨⟨h.1.os, h.1.tape, h.1.output, h.1.size, h.1.block⟩, h.2⟩
set_option maxHeartbeats 4000000 in
set_option maxRecDepth 100000 in
theorem c_appendObject (L : List UInt8) (b : Value) (base k n cap B off : Nat) (ad : Option Addr) (X Y : Nat → Int) (hX : ∀ i, Iw (X i) ∧ Iw (Y i)) (hk : k ≤ 1000) (hn : n ≤ 1000) (hA : 0 < n → ad = some ⟨B, off, none⟩) (W : World) (hL : L.length ≤ 50000) (hb : base ≤ W.heap.size) (hO : Own W base b L)
    (hB : ∀ g, b.ownBlock = some g → g ≠ B) (hP : ∀ i, i < n → W.cell? ⟨B, off + i * 2, none⟩ = some (.int .i64 (X i)) ∧ W.cell? ⟨B, off + i * 2 + 1, none⟩ = some (.int .i64 (Y i))) :
    Calls Tryz.prog 197 #[b, .agg #[.int .i64 k, .slice ad n cap]] W fun e w' => ∃ b', e = .returned b' ∧ Own w' base b' (L ++ Ec.vr k ++ Ec.vr n ++ ptsB X Y n) ∧ Grown W w' b b' := by
  have HO := Lib.hid hO
  have HX := Lib.hid hX
  have HA := Lib.hid hA
  have HB := Lib.hid hB
  have HP := Lib.hid hP
  have hbl : ∀ g, b.ownBlock = some g → g < W.heap.size := fun g h => (World.ownsRow.lt hO g h).2
  have HBL := Lib.hid hbl
  clear hO hX hA hB hP hbl
  have l1 := (Ec.vr_len10 (v := k) (by omega)).2
  have l2 := (Ec.vr_len10 (v := n) (by omega)).2
  have e1 : (k : Int) % 18446744073709551616 = k := by omega
  have e2 : (n : Int) % 18446744073709551616 = n := by omega
  have e3 : IntKind.u64.wrap (k : Int) = k := by rw [IntKind.wrap_u64]; omega
  have e4 : IntKind.u64.wrap (n : Int) = n := by rw [IntKind.wrap_u64]; omega
  go_enter Tryz.func197, Tryz.ntmps197
  go_wp2_with fail
  go_at_call 196
  (with_reducible refine (c_appendVarint L b k base (by unfold Wd; omega) _ (by omega) (by simp; omega) (own_alloc HO.out _)).mono ?_)
  rintro e w1 ⟨b1, rfl, own1, gr1⟩
  have hne : ∀ g, b.ownBlock = some g → g ≠ W.heap.size := fun g h => by have := HBL.out g h; omega
  have c1 : w1.cell? ⟨W.heap.size, 1, none⟩ = some (.slice ad n cap) := Grown.cell gr1 (by go_simp) (fun g h e => hne g h e)
  have z1 : W.heap.size < w1.heap.size := by have := gr1.size; simp at this; omega
  have O1 := Lib.hid own1
  have G1 := Lib.hid gr1
  clear gr1 own1 hne
  go_wp2_with fail
  go_at_call 196
  (with_reducible refine (c_appendVarint (L ++ Ec.vr k) b1 n base (by unfold Wd; omega) _ (by simp; omega) (by omega) O1.out).mono ?_)
  rintro e w2 ⟨b2, rfl, own2, gr2⟩
  have hne : ∀ g, b1.ownBlock = some g → g ≠ W.heap.size := fun g h => by
    rcases G1.out.at g h with h1 | h1
    · have := HBL.out g h1; omega
    · simp at h1; omega
  have c2 : w2.cell? ⟨W.heap.size, 1, none⟩ = some (.slice ad n cap) := Grown.cell gr2 c1 (fun g h e => hne g h e)
  have z2 : W.heap.size < w2.heap.size := by have := gr2.size; omega
  have G2 := Lib.hid (G1.out.trans gr2)
  have O2 := Lib.hid own2
  clear gr2 own2 c1 z1 G1 O1 hne
  go_wp2_with fail
  go_loopg [0, 21] n (fun m bb x wr => ∃ i : Nat, x = .int .i64 i ∧ i ≤ n ∧ m = n - i ∧ Own wr base bb (L ++ Ec.vr k ++ Ec.vr n ++ ptsB X Y i) ∧ Grown (W.alloc (.cells #[.int .i64 k, .slice ad n cap] 34)) wr b bb)
  case atStart => exact ⟨0, rfl, Nat.zero_le _, by omega, by simpa [ptsB] using O2.out, G2.out⟩
  case round =>
    obtain ⟨i, rfl, hi, hm, hOw, hG⟩ := hrel
    have hsz := hG.size
    simp at hsz
    have hlen := ptsB_len X Y HX.out i
    have HOw := Lib.hid hOw
    have HG := Lib.hid hG
    clear hOw hG O2 G2
    by_cases h : i < n
    · have ti : decide ((i : Int) < (n : Int)) = true := decide_eq_true (by omega)
      have ti2 : decide (i < n) = true := decide_eq_true h
      have tn : (i : Int) < (n : Int) := by omega
      obtain rfl := HA.out (by omega)
      have ne2 : ∀ g, b.ownBlock = some g → g ≠ B := HB.out
      have hp := HP.out i h
      have hbb : B < W.heap.size := World.block_lt_of_cell? _ _ hp.1
      have p0 : wr.cell? ⟨B, off + i * 2, none⟩ = some (.int .i64 (X i)) := Grown.cell HG.out (cell_gr (by go_grown) hp.1) (fun g hg e => ne2 g hg e)
      have p1 : wr.cell? ⟨B, off + i * 2 + 1, none⟩ = some (.int .i64 (Y i)) := Grown.cell HG.out (cell_gr (by go_grown) hp.2) (fun g hg e => ne2 g hg e)
      have hXi := HX.out i
      have hu : ∀ g, u0.ownBlock = some g → g ≠ wr.heap.size := fun g h => by have := (World.ownsRow.lt HOw.out g h).2; omega
      have HU := Lib.hid hu
      have hls : (L ++ Ec.vr k ++ Ec.vr n ++ ptsB X Y i).length ≤ 90000 := by simp; omega
      have hle := (zz_len hXi.1).2
      obtain ⟨LL, eLL⟩ : ∃ LL, LL = L ++ Ec.vr k ++ Ec.vr n ++ ptsB X Y i := ⟨_, rfl⟩
      have hE : L ++ Ec.vr k ++ Ec.vr n ++ ptsB X Y (i + 1) = LL ++ Ec.vr (zz (X i)) ++ Ec.vr (zz (Y i)) := by rw [eLL]; simp only [ptsB, List.append_assoc]
      rw [← eLL] at HOw hls
      have HE := Lib.hid hE
      have HXI := Lib.hid hXi
      obtain ⟨wz, hwz⟩ : ∃ wz, wz = wr.heap.size := ⟨_, rfl⟩
      clear hp ne2 c2 hu hXi eLL hE
      go_wp2_with fail
      go_region_with (go_at_call 225; first
        | ((with_reducible refine (c_appendSigned LL u0 (X i) base HXI.out.1.lo HXI.out.1.hi _ (by omega) (by simp; omega) ?_).mono ?_); (· exact own_alloc HOw.out _); rintro e wa ⟨ba, rfl, owna, gra⟩; have ca := Grown.cell gra (p := ⟨wr.heap.size, 1, none⟩) (x := .int .i64 (Y i)) (by go_simp) (fun g h e => HU.out g h e); have Gra := Lib.hid gra; have Owna := Lib.hid owna; clear gra owna)
        | ((with_reducible refine (c_appendSigned (LL ++ Ec.vr (zz (X i))) ba (Y i) base HXI.out.2.lo HXI.out.2.hi _ (by simp; omega) (by have := Gra.out.size; simp at this; first | omega | (simp; omega)) ?_).mono ?_); (· exact Owna.out); rintro e wb ⟨bz, rfl, ownb, grb⟩; have Grb := Lib.hid grb; have Ownb := Lib.hid ownb; clear grb ownb))
      all_goals
        go_wp2_with fail
        go_roundg (n - (i + 1))
        case measure => omega
        case rel => exact ⟨i + 1, by go_num, by omega, rfl, by rw [HE.out]; exact Ownb.out, ((HG.out.alloc _).drew.trans Gra.out).trans Grb.out⟩
    · have e : i = n := by omega
      subst e
      have ti : decide ((i : Int) < (i : Int)) = false := decide_eq_false (by omega)
      go_wp2_with fail
      go_ret
      exact ⟨_, rfl, HOw.out, ((Grown.refl W b).alloc _).trans HG.out⟩
end Go.Proofs.YtpomllpplpalkaaGreatDoor
