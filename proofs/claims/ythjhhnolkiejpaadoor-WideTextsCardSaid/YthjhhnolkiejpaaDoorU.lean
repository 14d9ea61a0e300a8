/- wide.Parse, whole -/
import Derived.Test.YthjhhnolkiejpaaDoorV
import Derived.Test.YthjhhnolkiejpaaDoorO
namespace Go.Proofs.YthjhhnolkiejpaaDoor
set_option linter.unusedVariables false
open Go.ChangeShapes Go.WideShapes Go.ChangeAt Go.RowKit

theorem times10 : ∀ h l, Wd h → Wd l → ∃ tp th tl, tp = val h l * 10 / p128 ∧ val th tl = val h l * 10 % p128 ∧ Wd th ∧ Wd tl ∧ ∀ w, Calls Tryd.prog 10 #[.agg #[.int .u64 h, .int .u64 l], .int .u64 10] w fun e w' => e = .returned (.tuple #[.int .u64 (tp : Nat), .agg #[.int .u64 (th : Nat), .int .u64 (tl : Nat)]]) ∧ Gr w w' := by
  intro h l hh hl
  have C := c_Times h l 10 hh hl (by unfold Wd; omega)
  refine ⟨_, _, _, ?_, ?_, ?_, ?_, C⟩
  · generalize val h l * 10 = X; unfold p128; omega
  · generalize val h l * 10 = X; unfold val p128; omega
  · exact wd_mod _
  · exact wd_mod _
theorem add_digit : ∀ h l d, Wd h → Wd l → d < 10 → ∃ sh sl ov, ov = decide (p128 ≤ val h l + d) ∧ val sh sl = (val h l + d) % p128 ∧ Wd sh ∧ Wd sl ∧ ∀ w, Calls Tryd.prog 49 #[.agg #[.int .u64 h, .int .u64 l], .agg #[.int .u64 0, .int .u64 d]] w fun e w' => e = .returned (.tuple #[.agg #[.int .u64 (sh : Nat), .int .u64 (sl : Nat)], .bool ov]) ∧ Gr w w' := by
  intro h l d hh hl hd
  have C := c_Add h l 0 d hh hl (by unfold Wd; omega) (by unfold Wd; omega)
  refine ⟨_, _, _, ?_, ?_, ?_, ?_, C⟩
  · rw [val_zero, decide_eq_decide]; unfold p128; omega
  · rw [val_zero]; generalize val h l + d = X; unfold val p128; omega
  · exact wd_mod _
  · exact wd_mod _

set_option maxHeartbeats 1000000 in
set_option maxRecDepth 100000 in
theorem c_Parse (s : ByteArray) (w : World) : Calls Tryd.prog 21 #[.string s] w fun e w' => e = .returned (parsed (Rd.parse p128 s.data.toList)) ∧ Gr w w' := by
  have hsz : s.data.toList.length = s.size := by simp
  by_cases h0 : s.size = 0
  · have e : Rd.parse p128 s.data.toList = none := by
      unfold Rd.parse
      rw [if_pos (Or.inl (List.eq_nil_of_length_eq_zero (by omega)))]
    have hE : s.toList.isEmpty = true := by
      rw [ByteArray.toList_eq, List.eq_nil_of_length_eq_zero (show s.data.toList.length = 0 by omega)]; rfl
    rw [e]
    clear e hsz h0
    go_enter Tryd.func21, Tryd.ntmps21
    go_wp2_with fail
    refine bodyPost_ret (v := parsed none) (by simp [results, Tryd.results21, go_sem, parsed, *]) rfl ⟨rfl, by go_grown⟩
  · have hE : s.toList.isEmpty = false := by
      rw [ByteArray.toList_eq]
      cases hl : s.data.toList with
      | nil => rw [hl] at hsz; simp at hsz; omega
      | cons a t => rfl
    by_cases h39 : 39 < s.size
    · have e : Rd.parse p128 s.data.toList = none := by
        unfold Rd.parse
        rw [if_pos (Or.inr (Or.inl (by omega)))]
      have t1 : decide (39 < (s.size : Int)) = true := decide_eq_true (by omega)
      rw [e]
      clear e hsz h0 h39
      go_enter Tryd.func21, Tryd.ntmps21
      go_wp2_with fail
      refine bodyPost_ret (v := parsed none) (by simp [results, Tryd.results21, go_sem, parsed, *]) rfl ⟨rfl, by go_grown⟩
    · have t1 : decide (39 < (s.size : Int)) = false := decide_eq_false (by omega)
      have hz : 0 < s.size := by omega
      have hhead : s.data.toList.head? = some (s[0]'hz) := by
        have hl : 0 < s.data.toList.length := by omega
        rw [List.head?_eq_getElem?, List.getElem?_eq_getElem hl]
        rfl
      by_cases hn : 1 < s.size ∧ s[0]'hz = 48
      · have e : Rd.parse p128 s.data.toList = none := by
          unfold Rd.parse
          rw [if_pos (Or.inr (Or.inr ⟨by omega, by rw [hhead, hn.2]⟩))]
        have t2 : decide (1 < (s.size : Int)) = true := decide_eq_true (by omega)
        have t3 : (((s[0]'hz).toNat : Int) == 48) = true := by rw [hn.2]; rfl
        rw [e]
        clear e hsz h0 h39 hn hhead
        go_enter Tryd.func21, Tryd.ntmps21
        go_wp2_with fail
        refine bodyPost_ret (v := parsed none) (by simp [results, Tryd.results21, go_sem, parsed, *]) rfl ⟨rfl, by go_grown⟩
      · have e : Rd.parse p128 s.data.toList = Rd.scan p128 0 s.data.toList := by
          unfold Rd.parse
          rw [if_neg]
          rintro (h | h | ⟨h1, h2⟩)
          · rw [h] at hsz; simp at hsz; omega
          · omega
          · rw [hhead] at h2
            exact hn ⟨by omega, Option.some.inj h2⟩
        rw [e]
        refine parse_core s w hE hz (by omega) t1 ?_ times10 add_digit
        by_cases h1 : 1 < s.size
        · refine .inr ⟨decide_eq_true (by omega), ?_⟩
          have : (s[0]'hz).toNat ≠ 48 := fun h => hn ⟨h1, UInt8.toNat_inj.1 h⟩
          simp; omega
        · exact .inl (decide_eq_false (by omega))
end Go.Proofs.YthjhhnolkiejpaaDoor
