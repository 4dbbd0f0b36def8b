/-
  What Lean keeps: the program's cubes and the reference's are the same, in the same order.
-/
import Derived.Test.YtamjaohoicedfaaDoorSpaceMath
namespace Go.Proofs.YtamjaohoicedfaaDoor
open Go.RowKit

theorem cEq_symm {a b : Nat → Int} (h : cEq a b = true) : cEq b a = true := (cEq_iff b a).2 fun j hj => ((cEq_iff a b).1 h j hj).symm
theorem cEq_trans {a b c : Nat → Int} (h : cEq a b = true) (k : cEq b c = true) : cEq a c = true := (cEq_iff a c).2 fun j hj => ((cEq_iff a b).1 h j hj).trans ((cEq_iff b c).1 k j hj)
theorem cOrd_of_eq {a b : Nat → Int} (h : cEq a b = true) : cOrd a b = 0 := by
  have := cOrd_zero a b
  rw [h] at this
  simpa using this
theorem eq_of_cOrd {a b : Nat → Int} (h : cOrd a b = 0) : cEq a b = true := by
  rw [← cOrd_zero, h]; rfl
theorem lt_congr_l {a b c : Nat → Int} (h : cEq a b = true) (k : cOrd a c < 0) : cOrd b c < 0 := by
  have e := cOrd_of_eq h
  have n1 := cOrd_neg a b
  have n2 := cOrd_neg b c
  have n3 := cOrd_neg a c
  by_cases g : cOrd b c < 0
  · exact g
  · exfalso
    have := cOrd_trans (a := c) (b := b) (c := a) (by omega) (by omega)
    omega
theorem lt_congr_r {a b c : Nat → Int} (h : cEq a b = true) (k : cOrd c a < 0) : cOrd c b < 0 := by
  have e := cOrd_of_eq h
  have n1 := cOrd_neg a b
  have n2 := cOrd_neg b c
  have n3 := cOrd_neg a c
  by_cases g : cOrd c b < 0
  · exact g
  · exfalso
    have := cOrd_trans (a := a) (b := b) (c := c) (by omega) (by omega)
    omega
theorem lt_trans {a b c : Nat → Int} (h : cOrd a b < 0) (k : cOrd b c < 0) : cOrd a c < 0 := by
  have n1 := cOrd_neg a b
  have n2 := cOrd_neg b c
  have n3 := cOrd_neg a c
  by_cases g : cOrd a c < 0
  · exact g
  · exfalso
    have := cOrd_trans (a := c) (b := a) (c := b) (by omega) (by omega)
    omega
theorem csnd_congr {a b : Nat → Int} (ha : Wf a) (hb : Wf b) (h : cEq a b = true) (s : csnd a = true) : csnd b = true := by
  have e := (cEq_iff a b).1 h
  rw [csnd_iff ha] at s
  rw [csnd_iff hb]
  intro j hj
  obtain ⟨s1, s2, s3⟩ := s j hj
  rw [← e (12 + j) (by omega), ← e j (by omega)]
  refine ⟨s1, s2, fun i => ?_⟩
  unfold bitAt
  rw [← e (12 + j) (by omega), ← e j (by omega)]
  exact s3 i
theorem eq_in {a b : Nat → Int} (ha : Wf a) (hb : Wf b) (h : cEq a b = true) (s : csnd a = true) : inB a b = true := by
  have e := (cEq_iff a b).1 h
  refine (in_iff ha hb).2 ⟨s, csnd_congr ha hb h s, fun j hj t ht => ?_⟩
  unfold bitAt at *
  rw [e (12 + j) (by omega), e j (by omega)]
  exact ⟨ht, rfl⟩
theorem in_trans {a b c : Nat → Int} (ha : Wf a) (hb : Wf b) (hc : Wf c) (h : inB a b = true) (k : inB b c = true) : inB a c = true := by
  obtain ⟨s1, s2, e1⟩ := (in_iff ha hb).1 h
  obtain ⟨_, s4, e2⟩ := (in_iff hb hc).1 k
  exact (in_iff ha hc).2 ⟨s1, s4, e2.trans e1⟩
theorem le_of_bits {x y : Int} (hx : 0 ≤ x) (hy : 0 ≤ y) (h : ∀ t, x.toNat.testBit t = true → y.toNat.testBit t = true) : x ≤ y := by
  have e : x.toNat = x.toNat &&& y.toNat := by
    apply Nat.eq_of_testBit_eq
    intro t
    rw [Nat.testBit_and]
    cases hb : x.toNat.testBit t
    · rfl
    · rw [h t hb]; rfl
  have : x.toNat ≤ y.toNat := by rw [e]; exact Nat.and_le_right
  omega
/-- a wider cube comes first -/
theorem wider_first {x y : Nat → Int} (hx : Wf x) (hy : Wf y) (h : inB x y = true) (hn : cEq x y = false) : cOrd y x < 0 := by
  obtain ⟨sx, sy, e⟩ := (in_iff hx hy).1 h
  have hle : ∀ j, j < 12 → care y j ≤ care x j := fun j hj => le_of_bits (hy (12 + j)).1 (hx (12 + j)).1 fun t ht => (e j hj t ht).1
  unfold cOrd
  rcases ord_cases (care y) (care x) with ⟨e1, _⟩ | ⟨_, k, hk, _, q⟩ | ⟨e1, hq⟩
  · rw [e1]; simp
  · have := hle k hk; omega
  · exfalso
    have : cEq x y = true := by
      rw [cEq_iff]
      have hc : ∀ j, j < 12 → x (12 + j) = y (12 + j) := fun j hj => (hq j hj).symm
      have hv : ∀ j, j < 12 → x j = y j := fun j hj => by
        refine int_ext (hx j).1 (hy j).1 fun t => ?_
        rw [csnd_iff hx] at sx
        rw [csnd_iff hy] at sy
        cases hb : (y (12 + j)).toNat.testBit t
        · have hb' : (x (12 + j)).toNat.testBit t = false := by rw [hc j hj]; exact hb
          cases h1 : (x j).toNat.testBit t
          · cases h2 : (y j).toNat.testBit t
            · rfl
            · have := (sy j hj).2.2 t h2
              unfold bitAt at this
              rw [hb] at this; cases this
          · have := (sx j hj).2.2 t h1
            unfold bitAt at this
            rw [hb'] at this; cases this
        · exact (e j hj t hb).2
      intro j hj
      by_cases h12 : j < 12
      · exact hv j h12
      · have := hc (j - 12) (by omega)
        rwa [show 12 + (j - 12) = j by omega] at this
    rw [this] at hn; cases hn
/-- strictly sorted -/
def Strict (l : List (Nat → Int)) : Prop := l.Pairwise fun x y => cOrd x y < 0
/-- two strictly sorted lists with the same cubes are the same -/
theorem strict_same : ∀ (R R' : List (Nat → Int)), Strict R → Strict R' → (∀ x ∈ R, ∃ y ∈ R', cEq x y = true) → (∀ y ∈ R', ∃ x ∈ R, cEq x y = true) → R'.length = R.length ∧ ∀ i, i < R.length → cEq (nth R i) (nth R' i) = true
  | [], [], _, _, _, _ => ⟨rfl, fun i hi => absurd hi (by simp)⟩
  | [], y :: ys, _, _, _, h => by obtain ⟨x, hx, _⟩ := h y (by simp); cases hx
  | x :: xs, [], _, _, h, _ => by obtain ⟨y, hy, _⟩ := h x (by simp); cases hy
  | x :: xs, y :: ys, s, s', h, h' => by
    obtain ⟨s1, s2⟩ := List.pairwise_cons.1 s
    obtain ⟨s1', s2'⟩ := List.pairwise_cons.1 s'
    have irr : ∀ a b : Nat → Int, cEq a b = true → cOrd a b < 0 → False := fun a b e l => by rw [cOrd_of_eq e] at l; exact absurd l (by decide)
    have hxy : cEq x y = true := by
      obtain ⟨y', hy', e⟩ := h x (by simp)
      rcases List.mem_cons.1 hy' with rfl | hy'
      · exact e
      · exfalso
        have l1 : cOrd y x < 0 := lt_congr_r (cEq_symm e) (s1' y' hy')
        obtain ⟨x', hx', e'⟩ := h' y (by simp)
        rcases List.mem_cons.1 hx' with rfl | hx'
        · exact irr y x' (cEq_symm e') l1
        · have l2 : cOrd x y < 0 := lt_congr_r e' (s1 x' hx')
          have l3 := lt_trans l1 l2
          exact irr y y (cEq_refl y) l3
    have hxs : ∀ a ∈ xs, ∃ b ∈ ys, cEq a b = true := fun a ha => by
      obtain ⟨b, hb, e⟩ := h a (by simp [ha])
      rcases List.mem_cons.1 hb with rfl | hb
      · exact absurd (s1 a ha) fun l => irr x a (cEq_trans hxy (cEq_symm e)) l
      · exact ⟨b, hb, e⟩
    have hys : ∀ b ∈ ys, ∃ a ∈ xs, cEq a b = true := fun b hb => by
      obtain ⟨a, ha, e⟩ := h' b (by simp [hb])
      rcases List.mem_cons.1 ha with rfl | ha
      · exact absurd (s1' b hb) fun l => irr y b (cEq_trans (cEq_symm hxy) e) l
      · exact ⟨a, ha, e⟩
    obtain ⟨e1, e2⟩ := strict_same xs ys s2 s2' hxs hys
    refine ⟨by simp [e1], fun i hi => ?_⟩
    cases i with
    | zero => exact hxy
    | succ i => exact e2 i (by simpa using hi)
/-- a sound cube of the list that is within no other one -/
def MaxC (l : List (Nat → Int)) (x : Nat → Int) : Prop := x ∈ l ∧ csnd x = true ∧ ∀ y ∈ l, csnd y = true → inB x y = true → cEq x y = true
/-- how leanAll goes: what is kept so far, and what is to come -/
theorem leanAll_facts {l : List (Nat → Int)} (hl : WfL l) : ∀ (L done out : List (Nat → Int)), (∀ x, x ∈ done ++ L ↔ x ∈ l ∧ csnd x = true) → Sorted (done ++ L) → (∀ x ∈ out, x ∈ done) → Strict out → (∀ x ∈ out, ∀ y ∈ l, csnd y = true → inB x y = true → cEq x y = true) → (∀ x ∈ done, ∃ d ∈ out, inB x d = true) →
    Strict (leanAll L out) ∧ (∀ x ∈ leanAll L out, MaxC l x) ∧ ∀ x ∈ l, csnd x = true → ∃ d ∈ leanAll L out, inB x d = true
  | [], done, out, hm, _, ho, hst, hmx, hin => by
    refine ⟨hst, fun x hx => ?_, fun x hx sx => hin x (by simpa using (hm x).2 ⟨hx, sx⟩)⟩
    have := (hm x).1 (by simpa using ho x hx)
    exact ⟨this.1, this.2, hmx x hx⟩
  | c :: L, done, out, hm, hs, ho, hst, hmx, hin => by
    have hc := (hm c).1 (by simp)
    have wc := hl c hc.1
    have wo : ∀ x ∈ out, x ∈ l ∧ csnd x = true := fun x hx => (hm x).1 (List.mem_append.2 (.inl (ho x hx)))
    have hm' : ∀ x, x ∈ (done ++ [c]) ++ L ↔ x ∈ l ∧ csnd x = true := fun x => by rw [List.append_assoc]; exact hm x
    have hs' : Sorted ((done ++ [c]) ++ L) := by rw [List.append_assoc]; exact hs
    have sdc : ∀ x ∈ done, cOrd x c ≤ 0 := fun x hx => (List.pairwise_append.1 hs).2.2 x hx c (by simp)
    unfold leanAll
    cases hi : out.any fun d => inB c d
    · rw [if_neg (by simp)]
      have hno : ∀ d ∈ out, inB c d = false := fun d hd => by
        have := List.any_eq_false.1 hi d hd
        simpa using this
      refine leanAll_facts hl L (done ++ [c]) (out ++ [c]) hm' hs' (fun x hx => ?_) ?_ (fun x hx => ?_) (fun x hx => ?_)
      · rcases List.mem_append.1 hx with hx | hx
        · exact List.mem_append.2 (.inl (ho x hx))
        · exact List.mem_append.2 (.inr hx)
      · refine List.pairwise_append.2 ⟨hst, by simp, fun x hx y hy => ?_⟩
        rw [List.mem_singleton.1 hy]
        have le := sdc x (ho x hx)
        by_cases e : cOrd x c = 0
        · have := eq_in wc (hl x (wo x hx).1) (cEq_symm (eq_of_cOrd e)) hc.2
          rw [hno x hx] at this; cases this
        · omega
      · rcases List.mem_append.1 hx with hx | hx
        · exact hmx x hx
        · rw [List.mem_singleton.1 hx]
          intro y hy sy hin'
          cases hq : cEq c y
          · exfalso
            have lt := wider_first wc (hl y hy) hin' hq
            have hyd : y ∈ done := by
              rcases List.mem_append.1 ((hm y).2 ⟨hy, sy⟩) with h | h
              · exact h
              · rcases List.mem_cons.1 h with rfl | h
                · rw [cEq_refl] at hq; cases hq
                · have := (List.pairwise_cons.1 (List.pairwise_append.1 hs).2.1).1 y h
                  have n := cOrd_neg c y
                  omega
            obtain ⟨d, hd, e⟩ := hin y hyd
            have := in_trans wc (hl y hy) (hl d (wo d hd).1) hin' e
            rw [hno d hd] at this; cases this
          · rfl
      · rcases List.mem_append.1 hx with hx | hx
        · obtain ⟨d, hd, e⟩ := hin x hx
          exact ⟨d, List.mem_append.2 (.inl hd), e⟩
        · rw [List.mem_singleton.1 hx]
          exact ⟨c, by simp, in_refl wc hc.2⟩
    · rw [if_pos rfl]
      refine leanAll_facts hl L (done ++ [c]) out hm' hs' (fun x hx => List.mem_append.2 (.inl (ho x hx))) hst hmx (fun x hx => ?_)
      rcases List.mem_append.1 hx with hx | hx
      · exact hin x hx
      · rw [List.mem_singleton.1 hx]
        obtain ⟨d, hd, e⟩ := List.any_eq_true.1 hi
        exact ⟨d, hd, e⟩
theorem LeanOf.facts {l R : List (Nat → Int)} (h : LeanOf l R) (hl : WfL l) : Strict R ∧ (∀ x ∈ R, MaxC l x) ∧ ∀ x, MaxC l x → ∃ y ∈ R, cEq x y = true := by
  obtain ⟨L, h1, h2, rfl⟩ := h.all
  obtain ⟨f1, f2, f3⟩ := leanAll_facts hl L [] [] (fun x => by
    rw [List.nil_append, h1.mem_iff]
    exact List.mem_filter) (by simpa using h2) (fun x hx => (by cases hx)) List.Pairwise.nil (fun x hx => (by cases hx)) (fun x hx => (by cases hx))
  refine ⟨f1, f2, fun x hx => ?_⟩
  obtain ⟨d, hd, e⟩ := f3 x hx.1 hx.2.1
  obtain ⟨a, b, _⟩ := f2 d hd
  exact ⟨d, hd, hx.2.2 d a b e⟩
/-- does a place speak against keeping another? -/
def offR (l : List (Nat → Int)) (i k : Nat) : Bool := (k != i) && inB (nth l i) (nth l k) && (!cEq (nth l k) (nth l i) || decide (k < i))
/-- is a cube kept by the reference's Lean? -/
def keepR (l : List (Nat → Int)) (i : Nat) : Bool := csnd (nth l i) && (List.range l.length).all fun k => !offR l i k
/-- the cubes that the reference's Lean keeps, of the first so many -/
def keptR (l : List (Nat → Int)) : Nat → List (Nat → Int)
  | 0 => []
  | i + 1 => if keepR l i then keptR l i ++ [nth l i] else keptR l i
theorem keepR_iff {l : List (Nat → Int)} {i : Nat} : keepR l i = true ↔ csnd (nth l i) = true ∧ ∀ k, k < l.length → k ≠ i → inB (nth l i) (nth l k) = true → cEq (nth l k) (nth l i) = true ∧ ¬ k < i := by
  unfold keepR offR
  rw [Bool.and_eq_true_iff, List.all_eq_true]
  constructor
  · rintro ⟨a, b⟩
    refine ⟨a, fun k hk hne hin => ?_⟩
    have := b k (by simpa using hk)
    have hne' : (k != i) = true := by simpa using hne
    rw [hne', hin] at this
    simpa using this
  · rintro ⟨a, b⟩
    refine ⟨a, fun k hk => ?_⟩
    by_cases hne : k = i
    · simp [hne]
    · cases hin : inB (nth l i) (nth l k)
      · simp
      · obtain ⟨p, q⟩ := b k (by simpa using hk) hne hin
        simp [p, q]
theorem keptR_mem {l : List (Nat → Int)} : ∀ n x, x ∈ keptR l n ↔ ∃ i, i < n ∧ keepR l i = true ∧ x = nth l i
  | 0, x => by simp [keptR]
  | n + 1, x => by
    unfold keptR
    cases h : keepR l n
    · rw [if_neg (by simp), keptR_mem n x]
      constructor
      · rintro ⟨i, hi, a, b⟩; exact ⟨i, by omega, a, b⟩
      · rintro ⟨i, hi, a, b⟩
        refine ⟨i, ?_, a, b⟩
        by_cases e : i = n
        · subst e; rw [h] at a; cases a
        · omega
    · rw [if_pos rfl, List.mem_append, keptR_mem n x]
      constructor
      · rintro (⟨i, hi, a, b⟩ | hx)
        · exact ⟨i, by omega, a, b⟩
        · exact ⟨n, by omega, h, List.mem_singleton.1 hx⟩
      · rintro ⟨i, hi, a, b⟩
        by_cases e : i = n
        · subst e; exact .inr (by rw [b]; simp)
        · exact .inl ⟨i, by omega, a, b⟩
theorem keptR_ne {l : List (Nat → Int)} (hl : WfL l) : ∀ n, n ≤ l.length → (keptR l n).Pairwise fun x y => cEq x y = false
  | 0, _ => List.Pairwise.nil
  | n + 1, hn => by
    unfold keptR
    cases h : keepR l n
    · rw [if_neg (by simp)]; exact keptR_ne hl n (by omega)
    · rw [if_pos rfl]
      refine List.pairwise_append.2 ⟨keptR_ne hl n (by omega), by simp, fun x hx y hy => ?_⟩
      rw [List.mem_singleton.1 hy]
      obtain ⟨i, hi, _, rfl⟩ := (keptR_mem n x).1 hx
      cases e : cEq (nth l i) (nth l n)
      · rfl
      · exfalso
        obtain ⟨sn, hk⟩ := keepR_iff.1 h
        have := hk i (by omega) (by omega) (eq_in (hl.nth (by omega)) (hl.nth (by omega)) (cEq_symm e) sn)
        exact this.2 hi
theorem min_index {l : List (Nat → Int)} (p : (Nat → Int) → Bool) : ∀ n, (∃ i, i < n ∧ p (nth l i) = true) → ∃ i, i < n ∧ p (nth l i) = true ∧ ∀ j, j < i → p (nth l j) = false
  | 0, ⟨i, hi, _⟩ => absurd hi (by omega)
  | n + 1, ⟨i, hi, h⟩ => by
    by_cases g : ∃ i, i < n ∧ p (nth l i) = true
    · obtain ⟨j, a, b, c⟩ := min_index p n g
      exact ⟨j, by omega, b, c⟩
    · refine ⟨i, hi, h, fun j hj => ?_⟩
      cases e : p (nth l j)
      · rfl
      · exact absurd ⟨j, by omega, e⟩ g
theorem keptR_max {l : List (Nat → Int)} (hl : WfL l) : (∀ x ∈ keptR l l.length, MaxC l x) ∧ ∀ x, MaxC l x → ∃ y ∈ keptR l l.length, cEq x y = true := by
  constructor
  · intro x hx
    obtain ⟨i, hi, hk, rfl⟩ := (keptR_mem _ x).1 hx
    obtain ⟨sn, hk⟩ := keepR_iff.1 hk
    refine ⟨nth_mem hi, sn, fun y hy sy hin => ?_⟩
    obtain ⟨k, hk', rfl⟩ := List.mem_iff_getElem.1 hy
    have e : nth l k = l[k] := by simp [nth, List.getElem?_eq_getElem hk']
    rw [← e] at hin ⊢
    by_cases hne : k = i
    · rw [hne]; exact cEq_refl _
    · exact cEq_symm (hk k hk' hne hin).1
  · rintro x ⟨hx, sx, hmx⟩
    obtain ⟨j, hj, rfl⟩ := List.mem_iff_getElem.1 hx
    have ej : nth l j = l[j] := by simp [nth, List.getElem?_eq_getElem hj]
    obtain ⟨i, hi, e, hmin⟩ := min_index (l := l) (fun y => cEq y (nth l j)) l.length ⟨j, hj, cEq_refl _⟩
    rw [← ej] at sx hmx ⊢
    have wi := hl.nth hi
    have wj := hl.nth hj
    have si := csnd_congr wj wi (cEq_symm e) sx
    refine ⟨nth l i, (keptR_mem _ _).2 ⟨i, hi, keepR_iff.2 ⟨si, fun k hk hne hin => ?_⟩, rfl⟩, cEq_symm e⟩
    have wk := hl.nth hk
    have hjk : inB (nth l j) (nth l k) = true := in_trans wj wi wk (eq_in wj wi (cEq_symm e) sx) hin
    have sk := ((in_iff wj wk).1 hjk).2.1
    have ejk := hmx _ (nth_mem hk) sk hjk
    refine ⟨cEq_trans (cEq_symm ejk) (cEq_symm e), fun hki => ?_⟩
    have := hmin k hki
    rw [cEq_symm ejk] at this
    cases this
/-- the reference's Lean: what is kept, sorted -/
def RLean (l R : List (Nat → Int)) : Prop := R.Perm (keptR l l.length) ∧ Sorted R
theorem lean_same {l R R' : List (Nat → Int)} (hl : WfL l) (h : LeanOf l R) (h' : RLean l R') : R'.length = R.length ∧ ∀ i, i < R.length → cEq (nth R i) (nth R' i) = true := by
  obtain ⟨f1, f2, f3⟩ := h.facts hl
  obtain ⟨k1, k2⟩ := keptR_max hl
  have hne : R'.Pairwise fun x y => cEq x y = false := by
    refine (List.Perm.pairwise_iff (fun {x y} hxy => ?_) h'.1).2 (keptR_ne hl _ (Nat.le_refl _))
    cases e : cEq y x
    · rfl
    · rw [cEq_symm e] at hxy; cases hxy
  have hst : Strict R' := by
    refine List.Pairwise.imp₂ (fun x y (a : cOrd x y ≤ 0) (b : cEq x y = false) => ?_) h'.2 hne
    by_cases e : cOrd x y = 0
    · rw [eq_of_cOrd e] at b; cases b
    · omega
  refine strict_same R R' f1 hst (fun x hx => ?_) (fun y hy => ?_)
  · obtain ⟨y, hy, e⟩ := k2 x (f2 x hx)
    exact ⟨y, h'.1.mem_iff.2 hy, e⟩
  · obtain ⟨x, hx, e⟩ := f3 y (k1 y (h'.1.mem_iff.1 hy))
    exact ⟨x, hx, cEq_symm e⟩
end Go.Proofs.YtamjaohoicedfaaDoor
