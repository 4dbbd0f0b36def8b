/-
  What the law CodeReads needs of a message read: from what the reference's Decode answers.
-/
import Derived.Test.YtndgbgolmpoepaaDoorCodLaw
namespace Go.Proofs.YtndgbgolmpoepaaDoor
open Go.RowKit

/-- what the reference's Decode answers (to be shown) -/
def RDecOk : Prop := ∀ (v : Value) (l : List Int), ByL l → l.length ≤ 20000 → ∀ w : World, KLies KB v l w → Calls Tryd.prog 19 #[v] w (DecRet w (decE l) (decV l))
theorem msg_rules_len {x : Ms} (hs : sndMs x = true) : x.rules.length ≤ 65535 := by
  unfold sndMs at hs
  repeat' split at hs
  all_goals simp only [Bool.and_eq_true, decide_eq_true_eq] at hs
  all_goals omega
theorem dec_facts {l : List Int} (hb : ByL l) : (WfUL (decV l).rules ∧ (decV l).mod.acts.length ≤ 140737488355328) ∧ (decV l).rules.length ≤ 65535 ∧ msEq (decV l) (decV l) = true := by
  by_cases h : decE l = 0
  · obtain ⟨⟨h1, h2, h3⟩, _⟩ := enc_dec hb h
    exact ⟨⟨h3.rules, by have := h3.mod.room; omega⟩, msg_rules_len h1, msEq_self _ h2⟩
  · rw [dec_no h]
    exact ⟨⟨fun u hu => by simp [zMs] at hu, Nat.zero_le _⟩, Nat.zero_le _, by decide +kernel⟩
end Go.Proofs.YtndgbgolmpoepaaDoor
