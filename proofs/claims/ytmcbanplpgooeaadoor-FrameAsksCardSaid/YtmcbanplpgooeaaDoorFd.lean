/- frame: Put -/
import Derived.Test.YtmcbanplpgooeaaDoorFc
import Derived.OwnWalk
namespace Go.Proofs.YtmcbanplpgooeaaDoor
set_option linter.unusedVariables false
open Go.ChangeShapes Go.WideShapes Go.ChangeAt Go.RowKit

section
variable {P : Program}
/-- To append nothing. -/
theorem run_append_nothing {w : World} {base : Nat} {t ty e : TypeId} {i : TypeInfo} {size n c : Nat} {v : Value} {xs : List Value} (ht : P.underlying t = some (.slice e)) (hi : P.info? e = some i)
    (hown : w.ownsRow base e size v n xs) : (Builtin.append_ #[t, t] ty #[v, .slice none 0 c]).run P w = .ok v w := by
  rcases hown.2 with ⟨rfl, rfl⟩ | ⟨g, cap, cur, rfl, hbg, hg, hnc, hcm, hcs, htake⟩
  · simp [Builtin.append_, run_underlying ht, sizeOf, typeInfo, hi, Builtin.lenOf, Builtin.firstCells]
  · simp [Builtin.append_, run_underlying ht, sizeOf, typeInfo, hi, Builtin.lenOf, Builtin.firstCells, hnc, storeCells]
/-- A row of any place behind an own one. -/
theorem wpList_append_row {w : World} {ops : Array Oper} {rest : List Oper} {o : Oper} {a : Act} {Q : Exit → Act → World → Prop} (hgd : o.guard = none) (s x : Operand) (t : TypeId)
    (ho : o.op = .call { callee := .builtin .append, args := #[s, x], argTypes := #[t, t] })
    (base : Nat) (e : TypeId) (i : TypeInfo) (z : Value) (bytes : Nat) (ht : P.underlying t = some (.slice e)) (hi : P.info? e = some i) (hz : i.zero = some z)
    (hsize : i.size = 1) (hby : i.bytes = bytes) (hzs : z.cells.size = 1)
    (v : Value) (n : Nat) (xs : List Value) (hs : a.eval s = v) (hown : w.ownsRow base e 1 v n xs)
    (ad : Option Addr) (m c B off : Nat) (news : List Value) (hx : a.eval x = .slice ad m c) (hA : 0 < m → ad = some ⟨B, off, none⟩) (hl : news.length = m) (hnews : ∀ j u, news[j]? = some u → w.cell? ⟨B, off + j, none⟩ = some u) (h1 : ∀ u ∈ news, u.oneCell' = true)
    (h63 : n + m ≤ maxLen) (hbytes : (n + m) * bytes ≤ 140737488355328) (hbase : base ≤ w.heap.size)
    (h : ∀ v' w', w'.ownsRow base e 1 v' (n + m) (xs ++ news) → Grown w w' v v' → wpList P ops Q rest (a.put o.dst v') w') : wpList P ops Q (o :: rest) a w := by
  match ad, hA, hx with
  | some ad, hA, hx =>
    refine wpList_append_own2 w hgd s x t ho base e i z 1 bytes ht hi hz hsize hby hzs (by decide) v n xs hs hown ad m c news hx (by omega) (fun j u hu => ?_) h1 h63 hbytes hbase h
    have hj : j < news.length := (List.getElem?_eq_some_iff.1 hu).1
    obtain rfl := Option.some.inj (hA (by omega))
    have := hnews j u hu
    rw [show (⟨B, off, none⟩ : Addr).add j = ⟨B, off + j, none⟩ from by unfold Addr.add; split <;> simp_all]
    exact this
  | none, hA, hx =>
    have hm : m = 0 := Nat.eq_zero_of_not_pos fun h => by have := hA h; simp at this
    subst hm
    obtain rfl := List.eq_nil_of_length_eq_zero hl
    refine wpList_plain hgd fun K hK => ?_
    unfold Oper.wp execOp
    simp only [ho, resolve, invoke, builtin, Sem.run_bind, Sem.run_pure, Result.andThen_ok, List.map_toArray, List.map_cons, List.map_nil, hs, hx, run_append_nothing (P := P) (ty := o.type) ht hi hown]
    exact hK _ _ (h v w (by simpa using hown) (Grown.refl w v))
end
theorem rowOwn_gr {a b : World} {base e size n : Nat} {v : Value} {xs : List Value} (h : a.ownsRow base e size v n xs) (g : Gr a b) : b.ownsRow base e size v n xs :=
  h.kept (row := none) ⟨g.os, g.tape, g.output, g.size, fun k hk _ => g.block k hk⟩ (by
    rcases hh : v.ownBlock with _ | k
    · exact Or.inl rfl
    · exact Or.inr (by simp))
theorem own_gr' {a b : World} {base : Nat} {v : Value} {L : List UInt8} (h : Own a base v L) (g : Gr a b) : Own b base v L := rowOwn_gr h g
theorem wd_len (v : Nat) : (wd v).length = 4 := rfl
/-- The framed bytes. -/
def fr (L : List UInt8) : List UInt8 := (wd L.length ++ L) ++ wd (Cr.sum (wd L.length ++ L))
theorem fr_len (L : List UInt8) : (fr L).length = L.length + 8 := by unfold fr; simp only [List.length_append, wd_len]; omega
set_option maxHeartbeats 4000000 in
set_option maxRecDepth 100000 in
theorem c_Put {L : List UInt8} {v : Value} (W : World) (hF : FT W) (h : Row W v L) (hl : L.length ≤ 65536) :
    Calls Tryd.prog 67 #[v] W fun e w' => ∃ b', e = .returned (.tuple #[b', .nilIface]) ∧ Own w' W.heap.size b' (fr L) ∧ Gr W w' := by
  obtain ⟨ad, cap, B, off, rfl, h1, h2, h3, h4⟩ := h
  obtain ⟨i0, hi0, hz0, hz1, hz2⟩ := info_parts (P := Tryd.prog) (e := 5) (z := .int .u8 0) (size := 1) (bytes := 1) (by kernel_rfl)
  have HI := Lib.hid hi0
  have HZ0 := Lib.hid hz0
  have HZ1 := Lib.hid hz1
  have HZ2 := Lib.hid hz2
  obtain ⟨n, en⟩ : ∃ n, n = L.length := ⟨_, rfl⟩
  have hnews : ∀ j u, (L.map bv)[j]? = some u → W.cell? ⟨B, off + j, none⟩ = some u := fun j u hu => by
    rw [List.getElem?_map] at hu
    obtain ⟨c, hc, rfl⟩ := Option.map_eq_some_iff.1 hu
    obtain ⟨hj, rfl⟩ := List.getElem?_eq_some_iff.1 hc
    exact h4 j hj
  have hlen : (L.map bv).length = n := by rw [List.length_map, en]
  rw [← en] at h3
  have HX := Lib.hid (And.intro h3 (And.intro hnews (And.intro hF (And.intro en (And.intro hlen (bv_one L))))))
  rw [← en] at h1 hl ⊢
  clear h3 h4 hF en hi0 hz0 hz1 hz2 hnews hlen
  have d1 : decide ((65536 : Int) < (n : Int)) = false := decide_eq_false (by omega)
  have d2 : decide (65536 < n) = false := decide_eq_false (by omega)
  obtain ⟨m, em⟩ : ∃ m, m = n + 8 := ⟨_, rfl⟩
  have EM := Lib.hid em
  clear em
  have hn0 : (n : Int) ≤ 65536 := by omega
  have w1 : IntKind.u32.wrap (n : Int) = (n : Int) := by rw [wrap_u32]; omega
  have w2 : (n : Int) % 4294967296 = (n : Int) := by omega
  go_enter Tryd.func67, Tryd.ntmps67
  go_wp2_with (at_make; refine wpList_make_own _ rfl _ _ 79 rfl W.heap.size 5 i0 (.int .u8 0) 1 Tryd.underlying79 HI.out HZ0.out HZ1.out .i64 .i64 _ m rfl rfl (by have := EM.out; omega) (by rw [HZ2.out]; have := EM.out; omega) (by have := EM.out; unfold maxLen; omega) (by simp) ?_; intro w0 own0 gr0)
  have HO0 := Lib.hid (show Own w0 W.heap.size _ [] from own0)
  have G0 : Gr W w0 := gr_of_grown (Below.refl _ _) gr0 (fun k e => by cases e)
  have s0 := gr0.size
  clear own0 gr0
  go_wp2_with fail
  go_at_call 139
  (with_reducible refine (c_AppendWord [] (.slice (some ⟨W.heap.size, 0, none⟩) 0 m) n W.heap.size (by omega) w0 (by simp) s0 HO0.out).mono ?_)
  rintro e w1 ⟨b1, rfl, own1, gr1⟩
  have G1 : Gr W w1 := gr1.gr G0 (fun k e => by cases e; exact Nat.le_refl _)
  have P1 := Lib.hid (fun k h => own_row own1 k h)
  have HO1 := Lib.hid (show w1.ownsRow W.heap.size 5 1 b1 4 ((wd n).map bv) from own1)
  have s1 := Nat.le_trans s0 gr1.size
  clear own1 gr1 G0 HO0
  go_wp2_with (first | (at_builtin; (refine wpList_append_row rfl (.tmp 18) (.tmp 19) 79 rfl W.heap.size 5 i0 (.int .u8 0) 1 Tryd.underlying79 HI.out HZ0.out HZ1.out HZ2.out rfl b1 4 _ rfl HO1.out ad n cap B off (L.map bv) rfl HX.out.1 HX.out.2.2.2.2.1 (fun j u hu => cell_gr G1 (HX.out.2.1 j u hu)) HX.out.2.2.2.2.2 (by unfold maxLen; omega) (by omega) s1 ?_); intro v2 w2 own2 gr2))
  have own2' : Own w2 W.heap.size v2 (wd n ++ L) := by
    have e : 4 + n = (wd n ++ L).length := by rw [List.length_append, wd_len, HX.out.2.2.2.1]
    unfold Own
    rw [← e, List.map_append]
    exact own2
  have G2 : Gr W w2 := gr2.gr G1 P1.out
  have P2 := Lib.hid (fun k h => own_row own2' k h)
  have HO2 := Lib.hid own2'
  have s2 := Nat.le_trans s1 gr2.size
  have hlw : (wd n ++ L).length = n + 4 := by rw [List.length_append, wd_len, ← HX.out.2.2.2.1]; omega
  clear own2 own2' gr2 G1 HO1 P1
  go_wp2_with fail
  go_at_call 73
  (with_reducible refine (c_Sum w2 (ft_gr HX.out.2.2.1 G2) (row_own HO2.out) (by omega)).mono ?_)
  rintro e w3 ⟨rfl, g3⟩
  have hs := Cr.sum_lt (wd n ++ L)
  have HO3 := Lib.hid (own_gr' HO2.out g3)
  have s3 := Nat.le_trans s2 g3.size
  have G3 := Gr.trans G2 g3
  clear g3 G2 HO2
  go_wp2_with fail
  go_at_call 139
  (with_reducible refine (c_AppendWord (wd n ++ L) v2 (Cr.sum (wd n ++ L)) W.heap.size hs w3 (by omega) s3 HO3.out).mono ?_)
  rintro e w4 ⟨b4, rfl, own4, gr4⟩
  have G4 : Gr W w4 := gr4.gr G3 P2.out
  go_wp2_with fail
  go_ret2
  refine ⟨_, rfl, ?_, G4⟩
  unfold fr
  rw [← HX.out.2.2.2.1]
  exact own4
end Go.Proofs.YtmcbanplpgooeaaDoor
