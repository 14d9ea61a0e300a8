import Derived.Test.YtpomllpplpalkaaGreatDoorTf
/- stage: what the changes make; the changed ids, rising -/
namespace Go.Proofs.YtpomllpplpalkaaGreatDoor
set_option linter.unusedVariables false
set_option linter.unusedSimpArgs false
open Go.ChangeShapes Go.WideShapes Go.ChangeAt Go.RowKit Go.Maps Go.Sort Go.Shelf

def sameM (o p : MO) : Bool := decide (o.k = p.k ∧ o.n = p.n ∧ ∀ i, i < o.n → o.X i = p.X i ∧ o.Y i = p.Y i)
theorem sameM_iff {o p : MO} : sameM o p = true ↔ (o.k = p.k ∧ o.n = p.n ∧ ∀ i, i < o.n → o.X i = p.X i ∧ o.Y i = p.Y i) := by unfold sameM; rw [decide_eq_true_eq]
def delC (z : Int) : CS := ⟨2, z, MO.zero⟩
def putC (z : Int) (o : MO) : CS := ⟨1, z, o⟩
def netO (z : Int) : Option MO → Option MO → List CS
  | none, none => []
  | some _, none => [delC z]
  | none, some p => [putC z p]
  | some o, some p => if sameM o p = true then [] else [delC z, putC z p]
def netL (s t : Int → Option MO) : List Int → List CS
  | [] => []
  | z :: l => netO z (s z) (t z) ++ netL s t l
theorem netL_app (s t : Int → Option MO) : ∀ l l' : List Int, netL s t (l ++ l') = netL s t l ++ netL s t l'
  | [], _ => rfl
  | z :: l, l' => by show netO _ _ _ ++ netL s t (l ++ l') = (netO _ _ _ ++ netL s t l) ++ netL s t l'; rw [netL_app s t l l', List.append_assoc]
theorem netL_take {s t : Int → Option MO} {l : List Int} {i : Nat} (hi : i < l.length) : netL s t (l.take (i + 1)) = netL s t (l.take i) ++ netO (l.getD i 0) (s (l.getD i 0)) (t (l.getD i 0)) := by
  rw [List.take_add_one, List.getElem?_eq_getElem hi, netL_app, List.getD_eq_getElem?_getD, List.getElem?_eq_getElem hi]
  show _ ++ (netO _ _ _ ++ []) = _
  rw [List.append_nil]
  rfl
theorem netO_len (z : Int) (a b : Option MO) : (netO z a b).length ≤ 2 := by
  cases a <;> cases b <;> simp only [netO, List.length_nil, List.length_cons] <;> first | omega | (split <;> simp)
theorem netL_len (s t : Int → Option MO) : ∀ l : List Int, (netL s t l).length ≤ 2 * l.length
  | [] => Nat.le_refl _
  | z :: l => by
    show (netO _ _ _ ++ netL s t l).length ≤ 2 * (l.length + 1)
    have := netO_len z (s z) (t z)
    have := netL_len s t l
    rw [List.length_append]
    omega
def KIds (P : Int → Prop) (l : List Int) : Prop := l.Pairwise (· < ·) ∧ ∀ z, z ∈ l ↔ (i64R z ∧ P z)
theorem kIds_uniq {P : Int → Prop} {l l' : List Int} (h : KIds P l) (h' : KIds P l') : l = l' := by
  have p : l.Perm l' := (List.perm_ext_iff_of_nodup (h.1.imp (fun h => Int.ne_of_lt h)) (h'.1.imp (fun h => Int.ne_of_lt h))).2 fun z => (h.2 z).trans (h'.2 z).symm
  exact List.Perm.eq_of_pairwise (le := (· < ·)) (fun a b _ _ h1 h2 => by omega) h.1 h'.1 p
theorem keys_of {w : World} {m N : Nat} {D : DataW Value} {P : Int → Prop} (hD : w.ownsMap Tryz.prog 3 heldE m N D) (hP : ∀ z, i64R z → (Maps.has D (zk z) = true ↔ P z)) : KIds P ((intKeys D).mergeSort leI) ∧ ((intKeys D).mergeSort leI).length = Maps.size D := by
  have hwf := intKeys_wf hD Tryz.underlying3
  obtain ⟨es, hE, hpw, _⟩ := hD.entries KI
  obtain ⟨es', hE', hko⟩ := hD.keysOf
  obtain rfl : es = es' := by rw [hE] at hE'; simpa using hE'
  subst hE
  have hk : ∀ p ∈ es, ∃ x, p.1 = .int .i64 x := fun p hp => by
    obtain ⟨v, hv⟩ := hko p hp
    obtain ⟨x, _, hx, _⟩ := Maps.keyOf_i64 Tryz.underlying3 hv
    exact ⟨x, hx⟩
  have hnd : (intKeys (.map es : DataW Value)).Nodup := by
    show (es.map fun p => Go.intOf p.1).Nodup
    refine List.pairwise_map.2 (hpw.imp_of_mem fun {p q} hp' hq' hne e => hne ?_)
    obtain ⟨a, ha⟩ := hk p hp'
    obtain ⟨b, hb⟩ := hk q hq'
    rw [ha, hb] at e ⊢
    exact congrArg _ e
  have tr : ∀ a b c : Int, leI a b = true → leI b c = true → leI a c = true := fun a b c h1 h2 => by simp only [leI, decide_eq_true_eq] at *; exact Int.le_trans h1 h2
  have tot : ∀ a b : Int, (leI a b || leI b a) = true := fun a b => by simp only [leI, Bool.or_eq_true, decide_eq_true_eq]; exact Int.le_total a b
  have hp := List.mergeSort_perm (intKeys (.map es : DataW Value)) leI
  refine ⟨⟨?_, fun z => ?_⟩, ?_⟩
  · refine ((List.pairwise_mergeSort tr tot (intKeys (.map es : DataW Value))).and (hp.nodup_iff.2 hnd)).imp (fun {a b} h => ?_)
    have h1 := h.1
    have h2 : a ≠ b := h.2
    simp only [leI, decide_eq_true_eq] at h1
    omega
  · rw [hp.mem_iff]
    constructor
    · intro hz
      have hi := wf_i64R (hwf z hz)
      refine ⟨hi, (hP z hi).1 ?_⟩
      obtain ⟨p, hp', e⟩ := List.mem_map.1 hz
      obtain ⟨a, ha⟩ := hk p hp'
      have ea : a = z := by rw [ha] at e; exact e
      subst ea
      rw [has_eq, List.any_eq_true]
      exact ⟨p, hp', by rw [ha]; simp [Lit.sameKey]⟩
    · rintro ⟨hi, hs⟩
      have h1 := (hP z hi).2 hs
      rw [has_eq, List.any_eq_true] at h1
      obtain ⟨p, hp', e⟩ := h1
      obtain ⟨a, ha⟩ := hk p hp'
      refine List.mem_map.2 ⟨p, hp', ?_⟩
      rw [ha] at e ⊢
      simpa [Lit.sameKey, Go.intOf] using e
  · rw [hp.length_eq]
    show (es.map fun p => Go.intOf p.1).length = es.length
    exact List.length_map _
set_option maxHeartbeats 1000000 in
theorem c_keysS {m n : Nat} {D : DataW Value} (W : World) (hm : W.ownsMap Tryz.prog 3 heldE m n D) :
    CallsIn Fence.wide 5 Tryz.prog 65 #[.map (some m)] W fun e w' => e = .returned (.func (.func 102) #[] #[.pointer (some ⟨W.heap.size, 0, none⟩)]) ∧ w' = W.alloc (.cells #[.map (some m)] 117) := AnyZI.keys_in Tryz.keysK65 Fence.wide 5 trivial rfl (some m) W
set_option maxHeartbeats 1000000 in
theorem c_sortedS {m n : Nat} {D : DataW Value} (W : World) (hm : W.ownsMap Tryz.prog 3 heldE m n D) (hsz : Maps.size D ≤ 1000000) : CallsIn Fence.wide 5 Tryz.prog 64 #[.func (.func 102) #[] #[.pointer (some ⟨W.heap.size, 0, none⟩)]] (W.alloc (.cells #[.map (some m)] 117)) fun e w' => ∃ (v : Value) (ss : List Int), e = .returned v ∧ ss.Perm (intKeys D) ∧ w'.ownsRow W.heap.size 3 1 v ss.length ((ss.mergeSort (fun x y => decide (x ≤ y))).map encZ) ∧ Gr W w' := by
  have hbl := hm.lt
  have hmax : Maps.size D ≤ maxLen := by unfold maxLen; omega
  have hbytes : Maps.size D * 8 ≤ 140737488355328 := by omega
  have hseq : SeqGives Fence.wide 2 Tryz.prog 102 #[.pointer (some ⟨W.heap.size, 0, none⟩)] encZ (fun ss : List Int => ss.Perm (intKeys D)) (Maps.size D) (W.alloc (.cells #[.map (some m)] 117)) :=
    AnyZI.keys_gives (ρ := Tryz.keysK65_ren) { Tryz.keysK65 with } Fence.wide _ trivial rfl (by omega) W.heap.size m n D _ (by simp) (by simp) (by
      obtain ⟨es, clock, hb, Ft, hs, hD⟩ := hm
      exact ⟨es, clock, (Below.heap_alloc _ _ m hbl).trans hb, Ft, hs, hD⟩)
  have cS := AnyZI.sorted_in Tryz.sortedK Fence.wide 5 trivial trivial trivial trivial rfl (by omega) (sortsK _) (enters_of Tryz.func101 (by kernel_rfl) rfl) 102 #[.pointer (some ⟨W.heap.size, 0, none⟩)] trivial (enters_of Tryz.func102 (by kernel_rfl) rfl) _ _ hmax hbytes _ hseq
  refine cS.mono ?_
  rintro e w' ⟨v, ss, rfl, hS, hrow, hnil, hb⟩
  exact ⟨v, ss, rfl, hS, ownsRow_base_a hrow (by simp), ((Below.refl _ W).alloc (Nat.le_refl _) _).trans (hb.mono (by simp))⟩
end Go.Proofs.YtpomllpplpalkaaGreatDoor
/- stage: Put, Del -/
namespace Go.Proofs.YtpomllpplpalkaaGreatDoor
set_option linter.unusedVariables false
set_option linter.unusedSimpArgs false
open Go.ChangeShapes Go.WideShapes Go.ChangeAt Go.RowKit Go.Maps

theorem res_chg {F : Func} {p : Tmp} {tmps : Array Value} {w : World} {N : Nat} {a b c : Int} {u : Value} (hF : F.results = #[.cell p 50]) (h2 : tmps.getD p undef = .pointer (some ⟨N, 0, none⟩)) (c0 : w.cell? ⟨N, 0, none⟩ = some (.int .i64 a)) (c1 : w.cell? ⟨N, 1, none⟩ = some (.int .i64 b)) (c2 : w.cell? ⟨N, 2, none⟩ = some (.int .i64 c)) (c3 : w.cell? ⟨N, 3, none⟩ = some u) :
    (results F tmps).run Tryz.prog w = .ok (.agg #[.int .i64 a, .int .i64 b, .int .i64 c, u]) w := by
  have g2 : tmps[p]?.getD undef = .pointer (some ⟨N, 0, none⟩) := by simpa using h2
  simp [results, hF, go_sem, g2, c0, c1, c2, c3]
set_option maxRecDepth 100000 in
theorem st_put (id k : Int) (ad : Option Addr) (n c : Nat) (W : World) : Calls Tryz.prog 60 #[.int .i64 id, .agg #[.int .i64 k, .slice ad n c]] W fun e w' => e = .returned (.agg #[.int .i64 1, .int .i64 id, .int .i64 k, .slice ad n c]) ∧ Gr W w' := by
  go_enter Tryz.func60, Tryz.ntmps60
  go_wp2_with fail
  refine bodyPost_ret (res_chg (p := 4) (N := W.heap.size + 1) (a := 1) (b := id) (c := k) (u := .slice ad n c) rfl (by first | rfl | simp) (by go_simp) (by go_simp) (by go_simp) (by go_simp)) rfl ⟨rfl, by go_grown⟩
set_option maxRecDepth 100000 in
theorem st_del (id : Int) (W : World) : Calls Tryz.prog 63 #[.int .i64 id] W fun e w' => e = .returned (.agg #[.int .i64 2, .int .i64 id, .int .i64 0, .slice none 0 0]) ∧ Gr W w' := by
  go_enter Tryz.func63, Tryz.ntmps63
  go_wp2_with fail
  refine bodyPost_ret (res_chg (p := 2) (N := W.heap.size) (a := 2) (b := id) (c := 0) (u := .slice none 0 0) rfl (by first | rfl | simp) (by go_simp) (by go_simp) (by go_simp) (by go_simp)) rfl ⟨rfl, by go_grown⟩
section
variable {W w : World} {N k : Nat} {Q : Nat → Nat} {M : Nat → Option Nat} {σ : Nat → Int → Option MO} {S b j : Nat} {op : Bool} {G : List CS}
set_option maxRecDepth 100000 in
theorem st_Put {id kk : Int} {n : Nat} {X Y : Nat → Int} {v : Value} (hi : i64R id) (hN : N < 1000000) (hG : G.length ≤ 1000) (hn : n ≤ 1000000) (F : StF W w N k Q M σ S b j op G) (hp : Pts w v n X Y) : Calls Tryz.prog 15 #[.pointer (some ⟨S, 0, none⟩), .int .i64 id, .agg #[.int .i64 kk, v]] w fun e w' => DoTo W N k Q σ S b j op G ⟨1, id, ⟨kk, n, X, Y⟩⟩ e w' := by
  have AC := Lib.hid (fun w' (g : Gr w w') => c_rCloneA (k := kk) hn w' (pts_gr hp g))
  have HF := Lib.hid F
  have HH := Lib.hid (And.intro hi (And.intro hN hG))
  obtain ⟨ad, cap, _, _, rfl, -⟩ := hp
  clear F hi hN hG
  go_enter Tryz.func15, Tryz.ntmps15
  go_wp2_with fail
  go_at_call 61
  refine (AC.out _ (by go_grown)).mono ?_
  rintro e w1 ⟨u, rfl, hu, g1⟩
  have hu2 : PtsF w1 W.heap.size u n X Y := ptsF_le hu (by have := HF.out.fam.gr.size; simp; omega)
  obtain ⟨bd, bc, _, _, rfl, -⟩ := hu.1
  have G1 : Gr w w1 := Gr.trans (by go_grown) g1
  have HG1 := Lib.hid (And.intro G1 hu2)
  clear hu hu2 g1 G1
  go_wp2_with fail
  go_at_call 60
  refine (st_put id kk bd n bc _).mono ?_
  rintro e w2 ⟨rfl, g2⟩
  have AD := Lib.hid (st_do (kd := 1) (id := id) (kk := kk) HH.out.1 HH.out.2.1 (HF.out.to (Gr.trans HG1.out.1 g2)) HH.out.2.2 (ptsF_gr HG1.out.2 g2))
  clear g2
  go_wp2_with fail
  go_at_call 59
  refine (AD.out).mono ?_
  rintro e w3 ⟨u3, M3, rfl, hu3, F3⟩
  have HE := Lib.hid (And.intro hu3 F3)
  clear hu3 F3 AD
  go_wp2_with fail
  go_ret
  exact ⟨_, M3, rfl, HE.out.1, HE.out.2⟩
set_option maxRecDepth 100000 in
theorem st_Del {id : Int} (hi : i64R id) (hN : N < 1000000) (hG : G.length ≤ 1000) (F : StF W w N k Q M σ S b j op G) : Calls Tryz.prog 21 #[.pointer (some ⟨S, 0, none⟩), .int .i64 id] w fun e w' => DoTo W N k Q σ S b j op G (delC id) e w' := by
  have HF := Lib.hid F
  have HH := Lib.hid (And.intro hi (And.intro hN hG))
  clear F hi hN hG
  go_enter Tryz.func21, Tryz.ntmps21
  go_wp2_with fail
  go_at_call 63
  refine (st_del id _).mono ?_
  rintro e w2 ⟨rfl, g2⟩
  have AD := Lib.hid (st_do (kd := 2) (id := id) (kk := 0) (v := .slice none 0 0) (n := 0) (X := fun _ => 0) (Y := fun _ => 0) HH.out.1 HH.out.2.1 (HF.out.to g2) HH.out.2.2 ⟨pts_any0 _ _, fun h => absurd h (Nat.lt_irrefl _)⟩)
  clear g2
  go_wp2_with fail
  go_at_call 59
  refine (AD.out).mono ?_
  rintro e w3 ⟨u3, M3, rfl, hu3, F3⟩
  have HE := Lib.hid (And.intro hu3 F3)
  clear hu3 F3 AD
  go_wp2_with fail
  go_ret
  exact ⟨_, M3, rfl, HE.out.1, HE.out.2⟩
end
end Go.Proofs.YtpomllpplpalkaaGreatDoor
