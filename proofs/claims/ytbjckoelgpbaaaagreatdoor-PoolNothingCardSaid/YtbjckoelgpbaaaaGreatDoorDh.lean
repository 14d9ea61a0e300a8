/- disk: what a crash leaves, sector by sector; Write at large; what the document fixes -/
import Derived.Test.YtbjckoelgpbaaaaGreatDoorDg
namespace Go.Proofs.YtbjckoelgpbaaaaGreatDoor
set_option linter.unusedVariables false
set_option linter.unusedSimpArgs false
open Go.ChangeShapes Go.WideShapes Go.ChangeAt Go.RowKit Go.Maps

theorem splice_get {α : Type} (X : List α) (off : Nat) (cs : List α) (h : off + cs.length ≤ X.length) (j : Nat) : (splice X off cs)[j]? = if j < off then X[j]? else if j < off + cs.length then cs[j - off]? else X[j]? := by
  unfold splice
  have hl : (X.take off).length = off := by rw [List.length_take]; omega
  by_cases h1 : j < off
  · rw [if_pos h1, List.getElem?_append_left (by omega), List.getElem?_take, if_pos h1]
  · rw [if_neg h1, List.getElem?_append_right (by omega), hl]
    by_cases h2 : j < off + cs.length
    · rw [if_pos h2, List.getElem?_append_left (by omega)]
    · rw [if_neg h2, List.getElem?_append_right (by omega), List.getElem?_drop]
      congr 1
      omega
theorem sec_get? (X : List UInt8) (k j : Nat) : (sec X k)[j]? = if j < 64 then X[k * 64 + j]? else none := by
  unfold sec
  rw [List.getElem?_take]
  by_cases h : j < 64
  · rw [if_pos h, if_pos h, List.getElem?_drop]
  · rw [if_neg h, if_neg h]
theorem sec_splice (X : List UInt8) (a k : Nat) (L : List UInt8) (hL : L.length ≤ 64) (h : (a + 1) * 64 ≤ X.length) : sec (splice X (a * 64) L) k = if k = a then L ++ (sec X k).drop L.length else sec X k := by
  have hs : a * 64 + L.length ≤ X.length := by omega
  refine List.ext_getElem? fun j => ?_
  rw [sec_get?]
  by_cases h1 : j < 64
  · rw [if_pos h1, splice_get X _ L hs]
    by_cases e : k = a
    · subst e
      rw [if_pos rfl, if_neg (by omega)]
      by_cases h2 : j < L.length
      · rw [if_pos (by omega), List.getElem?_append_left h2]
        congr 1
        omega
      · rw [if_neg (by omega), List.getElem?_append_right (by omega), List.getElem?_drop, sec_get?, if_pos (by omega)]
        congr 2
        omega
    · rw [if_neg e, sec_get?, if_pos h1]
      by_cases h3 : k < a
      · rw [if_pos (by omega)]
      · rw [if_neg (by omega), if_neg (by omega)]
  · rw [if_neg h1]
    by_cases e : k = a
    · rw [if_pos e, List.getElem?_append_right (by omega), List.getElem?_drop, sec_get?, if_neg (by omega)]
    · rw [if_neg e, sec_get?, if_neg h1]
/-- What becomes of a sector. -/
def crSec (d : Dk) (m k : Nat) : List UInt8 := if m = 0 then sec d.good k else if m = 1 then (d.F k).take 32 ++ (sec d.good k).drop 32 else d.F k
theorem sec_len {d : Dk} (h : d.ok) {k : Nat} (hk : k < d.n) : (sec d.good k).length = 64 := by unfold sec; rw [List.length_take, List.length_drop, h.len]; omega
theorem crG_sec {d : Dk} (h : d.ok) (f : Nat → Nat) : ∀ i, i ≤ d.ord.length → ∀ k, k < d.n →
    (∀ j, j < i → d.ord.getD j 0 = k → sec (crG d f i) k = crSec d (f j) k) ∧ ((∀ j, j < i → d.ord.getD j 0 ≠ k) → sec (crG d f i) k = sec d.good k)
  | 0, _, k, hk => ⟨fun j hj => absurd hj (Nat.not_lt_zero _), fun _ => rfl⟩
  | i + 1, hi, k, hk => by
    obtain ⟨ih1, ih2⟩ := crG_sec h f i (by omega) k hk
    obtain ⟨a1, a2, a3⟩ := ord_at h (show i < d.ord.length by omega)
    have hl := crG_len h f i (by omega)
    have hnd : ∀ j, j < i → d.ord.getD j 0 ≠ d.ord.getD i 0 := fun j hj e => by
      have e1 : d.ord.getD j 0 = d.ord[j]'(by omega) := by rw [List.getD_eq_getElem?_getD, List.getElem?_eq_getElem (by omega)]; rfl
      have e2 : d.ord.getD i 0 = d.ord[i]'(by omega) := by rw [List.getD_eq_getElem?_getD, List.getElem?_eq_getElem (by omega)]; rfl
      rw [e1, e2] at e
      have := (List.getElem_inj h.nodup).1 e
      omega
    rw [crG_succ]
    generalize hka : d.ord.getD i 0 = a at *
    have hb : (a + 1) * 64 ≤ (crG d f i).length := by rw [hl]; omega
    by_cases ek : a = k
    · subst ek
      have hno : sec (crG d f i) a = sec d.good a := ih2 hnd
      have hcur : sec (if f i = 0 then crG d f i else if f i = 1 then splice (crG d f i) (a * 64) ((d.F a).take 32) else splice (crG d f i) (a * 64) (d.F a)) a = crSec d (f i) a := by
        unfold crSec
        by_cases f0 : f i = 0
        · rw [if_pos f0, if_pos f0]; exact hno
        · rw [if_neg f0, if_neg f0]
          by_cases f1 : f i = 1
          · rw [if_pos f1, if_pos f1, sec_splice _ _ _ _ (by rw [List.length_take]; omega) hb, if_pos rfl, hno, List.length_take, a3]
            rfl
          · rw [if_neg f1, if_neg f1, sec_splice _ _ _ _ (by omega) hb, if_pos rfl, hno, a3, List.drop_of_length_le (by rw [sec_len h hk]; exact Nat.le_refl _), List.append_nil]
      refine ⟨fun j hj hjk => ?_, fun hn => absurd hka (hn i (by omega))⟩
      have : j = i := by
        rcases Nat.lt_or_ge j i with h' | h'
        · exact absurd hjk (hnd j h')
        · omega
      subst this
      exact hcur
    · have hcur : sec (if f i = 0 then crG d f i else if f i = 1 then splice (crG d f i) (a * 64) ((d.F a).take 32) else splice (crG d f i) (a * 64) (d.F a)) k = sec (crG d f i) k := by
        split
        · rfl
        · split
          · rw [sec_splice _ _ _ _ (by rw [List.length_take]; omega) hb, if_neg (fun e => ek e.symm)]
          · rw [sec_splice _ _ _ _ (by omega) hb, if_neg (fun e => ek e.symm)]
      rw [hcur]
      refine ⟨fun j hj hjk => ?_, fun hn => ih2 (fun j hj => hn j (by omega))⟩
      rcases Nat.lt_or_ge j i with h' | h'
      · exact ih1 j h' hjk
      · have : j = i := by omega
        subst this
        exact absurd (hka.symm.trans hjk) ek
section
variable {p g bm : Nat} {M : Option Nat} {d : Dk}
theorem d_write (k : Nat) (hk : k < d.n) (ho : d.on) (hn : d.ops < 1000000) {L : List UInt8} (hL : L.length = 64) (ad : Option Addr) (cp : Nat) (W : World) (H : DiskS W p g bm M d) (hR : RowOff W (dkZ p g bm M) (.slice ad 64 cp) L) :
    Calls Tryz.prog 69 #[.pointer (some ⟨p, 0, none⟩), .int .i64 k, .slice ad 64 cp] W fun e w' => e = .returned .nilIface ∧ WrDone W p g bm M (d.opd.wr k L) w' := by
  by_cases hin : k ∈ d.ord
  · exact d_write_in k hk hin ho hn hL ad cp W H hR
  · exact d_write_out k hk hin ho hn hL ad cp W H hR
end
end Go.Proofs.YtbjckoelgpbaaaaGreatDoor
