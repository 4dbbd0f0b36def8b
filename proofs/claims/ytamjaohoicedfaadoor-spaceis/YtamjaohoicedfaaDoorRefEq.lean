/-
  The reference's answers by texts are the program's by bits: Has, Within, Meet.
-/
import Derived.Test.YtamjaohoicedfaaDoorRefMeet
namespace Go.Proofs.YtamjaohoicedfaaDoor
open Go.RowKit

theorem place_lt {q k : Nat} (hq : q < 12) (hk : k < (sz q).toNat) : offF q + k < 248 := by
  have := offF_mono (show q + 1 ≤ 12 by omega)
  rw [offF, offF_12] at this
  omega
theorem text_get (c : Nat → Int) {q k : Nat} (hq : q < 12) (hk : k < (sz q).toNat) : (textTo c 12).getD (offF q + k) 0 = letT c q k := by
  rw [List.getD_eq_getElem?_getD, textTo_at c hk 12 hq]; rfl
theorem whole_get (h : Nat → Int) {q k : Nat} (hq : q < 12) (hk : k < (sz q).toNat) : (wholeTo h 12).getD (offF q + k) 0 = letL h q k := by
  rw [List.getD_eq_getElem?_getD, wholeTo_at h hk 12 hq]; rfl
/-- all places, by fields and bits -/
theorem places {P : Nat → Prop} : (∀ p, p < 248 → P p) ↔ ∀ q k, q < 12 → k < (sz q).toNat → P (offF q + k) := by
  constructor
  · intro h q k hq hk; exact h _ (place_lt hq hk)
  · intro h p hp
    obtain ⟨q, k, h1, h2, rfl⟩ := place p 12 (by rw [offF_12]; exact hp)
    exact h q k h1 h2
theorem all2_iff (p : UInt8 → UInt8 → Bool) (X Y : List UInt8) (r : Nat) : all2 p X Y r = true ↔ ∀ i, i < r → p (X.getD i 0) (Y.getD i 0) = true := by
  unfold all2
  rw [List.all_eq_true]
  constructor
  · intro h i hi; exact h i (by simpa using hi)
  · intro h i hi; exact h i (by simpa using hi)
/-- the bits of a field, from either end -/
theorem flip_bits {n : Nat} {P : Nat → Prop} : (∀ k, k < n → P (n - 1 - k)) ↔ ∀ t, t < n → P t := by
  constructor
  · intro h t ht
    have := h (n - 1 - t) (by omega)
    rwa [show n - 1 - (n - 1 - t) = t by omega] at this
  · intro h k hk; exact h _ (by omega)
theorem mtch_bits (v c h : Bool) : mtch (chT v c) (chB h) = (!c || (v == h)) := by cases v <;> cases c <;> cases h <;> decide
theorem htcm_bits (va ca vb cb : Bool) : htcm (chT va ca) (chT vb cb) = (!cb || (ca && (va == vb))) := by cases va <;> cases ca <;> cases vb <;> cases cb <;> decide
theorem cmpt_bits (va ca vb cb : Bool) : cmpt (chT va ca) (chT vb cb) = (!ca || !cb || (va == vb)) := by cases va <;> cases ca <;> cases vb <;> cases cb <;> decide
theorem mrg_bits {va ca vb cb : Bool} (h1 : va = true → ca = true) (h2 : vb = true → cb = true) (h3 : ca = true → cb = true → va = vb) : mrg (chT va ca) (chT vb cb) = chT (va || vb) (ca || cb) := by
  revert h1 h2 h3
  cases va <;> cases ca <;> cases vb <;> cases cb <;> decide
theorem has_text {c h : Nat → Int} (hc : Wf c) (hh : Wf h) : ((csnd c && all2 mtch (textTo c 12) (wholeTo h 12) 248) && sndB h) = hasB c h := by
  cases sc : csnd c
  · rw [hasB_cube sc]; rfl
  · cases sh : sndB h
    · rw [hasB_head sh, Bool.and_false]
    · rw [Bool.true_and, Bool.and_true, Bool.eq_iff_iff, all2_iff, places]
      have ic := (csnd_iff hc).1 sc
      have ih := (snd_iff h).1 sh
      have e : hasB c h = true ↔ ∀ j, j < 12 → offB c h j = false := by
        unfold hasB
        rw [sc, sh, Bool.true_and, Bool.true_and, List.all_eq_true]
        constructor
        · intro H j hj; have := H j (by simpa using hj); simpa using this
        · intro H j hj; have := H j (by simpa using hj); simp [this]
      rw [e]
      refine forall_congr' fun q => ?_
      constructor
      · intro H hq
        rw [off_iff hc hh]
        intro t
        unfold bitAt
        rcases Nat.lt_or_ge t (sz q).toNat with ht | ht
        · have := H ((sz q).toNat - 1 - t) hq (by omega)
          rw [text_get c hq (by omega), whole_get h hq (by omega), letT, letL, mtch_bits, show (sz q).toNat - 1 - ((sz q).toNat - 1 - t) = t by omega] at this
          have p := (ic q hq).2.2 t
          unfold bitAt at p
          revert this p
          cases (c q).toNat.testBit t <;> cases (c (12 + q)).toNat.testBit t <;> cases (h q).toNat.testBit t <;> simp
        · rw [(fit_bits (hh q).1).1 (ih q hq) t ht, (fit_bits (hc q).1).1 (ic q hq).2.1 t ht]; rfl
      · intro H k hq hk
        have := (off_iff hc hh q).1 (H hq) ((sz q).toNat - 1 - k)
        rw [text_get c hq hk, whole_get h hq hk, letT, letL, mtch_bits]
        unfold bitAt at this
        revert this
        cases (c q).toNat.testBit ((sz q).toNat - 1 - k) <;> cases (c (12 + q)).toNat.testBit ((sz q).toNat - 1 - k) <;> cases (h q).toNat.testBit ((sz q).toNat - 1 - k) <;> simp
theorem rhas_any (c h : Nat → Int) (hc : Wf c) (hh : Wf h) (w : World) :
    Calls Tryd.prog 9 #[.agg (cc c), .agg (Go.Proofs.YtamjaohoicedfaaDoor.hc h)] w fun e w' => e = .returned (.bool (hasB c h)) ∧ Below w.heap.size w w' := by
  have := rhas_of c h hc hh w
  rwa [has_text hc hh] at this
/-- within, by what is fixed -/
theorem in_iff {a b : Nat → Int} (ha : Wf a) (hb : Wf b) : inB a b = true ↔ csnd a = true ∧ csnd b = true ∧ Ext b a := by
  constructor
  · intro h
    obtain ⟨hm, hcare⟩ := in_ext ha hb h
    obtain ⟨sa, sb, hm2⟩ := (met_iff ha hb).1 hm
    refine ⟨sa, sb, fun j hj t ht => ?_⟩
    have := hcare j t hj ht
    exact ⟨this, hm2 j hj t this ht⟩
  · rintro ⟨sa, sb, h⟩
    exact ext_in hb ha sb sa h
theorem within_text {a b : Nat → Int} (ha : Wf a) (hb : Wf b) : ((csnd a && all2 htcm (textTo a 12) (textTo b 12) 248) && csnd b) = inB a b := by
  rw [Bool.eq_iff_iff, in_iff ha hb, Bool.and_eq_true, Bool.and_eq_true, all2_iff, places]
  constructor
  · rintro ⟨⟨sa, H⟩, sb⟩
    refine ⟨sa, sb, fun j hj t ht => ?_⟩
    have hn : t < (sz j).toNat := by
      rcases Nat.lt_or_ge t (sz j).toNat with h | h
      · exact h
      · have := (fit_bits (hb (12 + j)).1).1 ((csnd_iff hb).1 sb j hj).1 t h
        unfold bitAt at ht; rw [this] at ht; cases ht
    have := H j ((sz j).toNat - 1 - t) hj (by omega)
    rw [text_get a hj (by omega), text_get b hj (by omega), letT, letT, htcm_bits, show (sz j).toNat - 1 - ((sz j).toNat - 1 - t) = t by omega] at this
    unfold bitAt at ht ⊢
    rw [ht] at this
    revert this
    cases (a (12 + j)).toNat.testBit t <;> cases (a j).toNat.testBit t <;> cases (b j).toNat.testBit t <;> simp
  · rintro ⟨sa, sb, H⟩
    refine ⟨⟨sa, fun q k hq hk => ?_⟩, sb⟩
    have := H q hq ((sz q).toNat - 1 - k)
    rw [text_get a hq hk, text_get b hq hk, letT, letT, htcm_bits]
    unfold bitAt at this
    revert this
    cases (b (12 + q)).toNat.testBit ((sz q).toNat - 1 - k) <;> cases (a (12 + q)).toNat.testBit ((sz q).toNat - 1 - k) <;> cases (a q).toNat.testBit ((sz q).toNat - 1 - k) <;> cases (b q).toNat.testBit ((sz q).toNat - 1 - k) <;> simp
theorem rwithin_any (a b : Nat → Int) (ha : Wf a) (hb : Wf b) (w : World) :
    Calls Tryd.prog 29 #[.agg (cc a), .agg (cc b)] w fun e w' => e = .returned (.bool (inB a b)) ∧ Below w.heap.size w w' := by
  have := rwithin_of a b ha hb w
  rwa [within_text ha hb] at this
/-- what a sound cube gives From -/
theorem snd_from {c : Nat → Int} (hc : Wf c) (sc : csnd c = true) : Fit24 c ∧ ∀ j, j < 12 → ∀ t, bitAt c j t = true → bitAt c (12 + j) t = true := by
  have ic := (csnd_iff hc).1 sc
  exact ⟨fun j hj => ⟨(ic j hj).2.1, (ic j hj).1⟩, fun j hj => (ic j hj).2.2⟩
theorem cmpt_met {a b : Nat → Int} (ha : Wf a) (hb : Wf b) (sa : csnd a = true) (sb : csnd b = true) : (∀ r, r < 248 → cmpt ((textTo a 12).getD r 0) ((textTo b 12).getD r 0) = true) ↔ metB a b = true := by
  rw [places, met_iff ha hb]
  constructor
  · intro H
    refine ⟨sa, sb, fun j hj t h1 h2 => ?_⟩
    have hn : t < (sz j).toNat := by
      rcases Nat.lt_or_ge t (sz j).toNat with h | h
      · exact h
      · have := (fit_bits (hb (12 + j)).1).1 ((csnd_iff hb).1 sb j hj).1 t h
        unfold bitAt at h2; rw [this] at h2; cases h2
    have := H j ((sz j).toNat - 1 - t) hj (by omega)
    rw [text_get a hj (by omega), text_get b hj (by omega), letT, letT, cmpt_bits, show (sz j).toNat - 1 - ((sz j).toNat - 1 - t) = t by omega] at this
    unfold bitAt at h1 h2 ⊢
    rw [h1, h2] at this
    simpa using this
  · rintro ⟨_, _, H⟩ q k hq hk
    have := H q hq ((sz q).toNat - 1 - k)
    rw [text_get a hq hk, text_get b hq hk, letT, letT, cmpt_bits]
    unfold bitAt at this
    revert this
    cases (b (12 + q)).toNat.testBit ((sz q).toNat - 1 - k) <;> cases (a (12 + q)).toNat.testBit ((sz q).toNat - 1 - k) <;> cases (a q).toNat.testBit ((sz q).toNat - 1 - k) <;> cases (b q).toNat.testBit ((sz q).toNat - 1 - k) <;> simp
theorem merge_text {a b : Nat → Int} (ha : Wf a) (hb : Wf b) (hm : metB a b = true) : mergeTo (textTo a 12) (textTo b 12) 248 = textTo (orC a b) 12 := by
  obtain ⟨sa, sb, H⟩ := (met_iff ha hb).1 hm
  have ia := (csnd_iff ha).1 sa
  have ib := (csnd_iff hb).1 sb
  refine text_ext (by rw [mergeTo_len, text_len]) fun q k hq hk => ?_
  rw [mergeTo_at _ _ _ _ (by rw [text_len]; exact place_lt hq hk), if_pos (place_lt hq hk), text_get a hq hk, text_get b hq hk]
  have e1 := orC_bit ha hb q ((sz q).toNat - 1 - k)
  have e2 := orC_bit ha hb (12 + q) ((sz q).toNat - 1 - k)
  unfold bitAt at e1 e2
  unfold letT
  rw [e1, e2]
  exact congrArg some (mrg_bits ((ia q hq).2.2 _) ((ib q hq).2.2 _) (H q hq _))
end Go.Proofs.YtamjaohoicedfaaDoor
