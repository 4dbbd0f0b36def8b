/-
  Lists kept sorted by an order, one element a key, the last that came: no word of any program.
-/
import Derived.Test.YthalpnmejompdaaDoorProg
namespace Go.Proofs.YthalpnmejompdaaDoor

section
variable {α : Type}
/-- an order by numbers: its sign turns with its arguments, and it goes on -/
structure Ordd (ord : α → α → Int) : Prop where
  neg : ∀ a b, ord b a = -ord a b
  trans : ∀ a b c, ord a b ≤ 0 → ord b c ≤ 0 → ord a c ≤ 0
variable {ord : α → α → Int}
theorem Ordd.refl (O : Ordd ord) (a : α) : ord a a = 0 := by have := O.neg a a; omega
theorem Ordd.lt_of_lt_le (O : Ordd ord) {a b c : α} (h1 : ord a b < 0) (h2 : ord b c ≤ 0) : ord a c < 0 := by
  have h := O.trans a b c (by omega) h2
  have n1 := O.neg a c
  have n2 := O.neg a b
  by_cases e : ord a c < 0
  · exact e
  · exfalso
    have := O.trans b c a h2 (by omega)
    omega
theorem Ordd.lt_of_le_lt (O : Ordd ord) {a b c : α} (h1 : ord a b ≤ 0) (h2 : ord b c < 0) : ord a c < 0 := by
  have h := O.trans a b c h1 (by omega)
  have n1 := O.neg a c
  have n2 := O.neg b c
  by_cases e : ord a c < 0
  · exact e
  · exfalso
    have := O.trans c a b (by omega) h1
    omega
theorem Ordd.lt_trans (O : Ordd ord) {a b c : α} (h1 : ord a b < 0) (h2 : ord b c < 0) : ord a c < 0 := O.lt_of_lt_le h1 (by omega)
theorem Ordd.zero_symm (O : Ordd ord) {a b : α} (h : ord a b = 0) : ord b a = 0 := by have := O.neg a b; omega
theorem Ordd.zero_trans (O : Ordd ord) {a b c : α} (h1 : ord a b = 0) (h2 : ord b c = 0) : ord a c = 0 := by
  have i1 := O.trans a b c (by omega) (by omega)
  have i2 := O.trans c b a (by have := O.neg b c; omega) (by have := O.neg a b; omega)
  have := O.neg a c
  omega
/-- a list in its order, one element a key -/
def Srt (ord : α → α → Int) (l : List α) : Prop := l.Pairwise fun a b => ord a b < 0
/-- an element put where it belongs, in the place of one with its key -/
def ins (ord : α → α → Int) (x : α) : List α → List α
  | [] => [x]
  | y :: l => if ord y x < 0 then y :: ins ord x l else if ord y x = 0 then x :: l else x :: y :: l
/-- all elements, one behind the other -/
def insAll (ord : α → α → Int) (acc l : List α) : List α := l.foldl (fun acc x => ins ord x acc) acc
def srtL (ord : α → α → Int) (l : List α) : List α := insAll ord [] l
theorem insAll_cons (acc l : List α) (x : α) : insAll ord acc (x :: l) = insAll ord (ins ord x acc) l := rfl
theorem insAll_append (acc l k : List α) : insAll ord acc (l ++ k) = insAll ord (insAll ord acc l) k := by simp [insAll]
theorem srtL_snoc (l : List α) (x : α) : srtL ord (l ++ [x]) = ins ord x (srtL ord l) := by unfold srtL; rw [insAll_append]; rfl
theorem ins_mem (O : Ordd ord) (x : α) : ∀ (l : List α), Srt ord l → ∀ z, z ∈ ins ord x l ↔ z = x ∨ (z ∈ l ∧ ord z x ≠ 0)
  | [], _, z => by simp [ins]
  | y :: l, hs, z => by
    have hs' := List.pairwise_cons.1 hs
    have hx : ∀ w, w ∈ l → ord y w < 0 := hs'.1
    unfold ins
    split
    · rename_i h
      rw [List.mem_cons, ins_mem O x l hs'.2, List.mem_cons]
      constructor
      · rintro (rfl | rfl | ⟨h1, h2⟩)
        · exact .inr ⟨.inl rfl, by omega⟩
        · exact .inl rfl
        · exact .inr ⟨.inr h1, h2⟩
      · rintro (rfl | ⟨rfl | h1, h2⟩)
        · exact .inr (.inl rfl)
        · exact .inl rfl
        · exact .inr (.inr ⟨h1, h2⟩)
    · split
      · rename_i h0 h
        rw [List.mem_cons, List.mem_cons]
        constructor
        · rintro (rfl | h1)
          · exact .inl rfl
          · refine .inr ⟨.inr h1, ?_⟩
            have := O.lt_of_le_lt (a := x) (b := y) (c := z) (by have := O.neg y x; omega) (hx z h1)
            have := O.neg x z
            omega
        · rintro (rfl | ⟨rfl | h1, h2⟩)
          · exact .inl rfl
          · exact absurd h h2
          · exact .inr h1
      · rename_i h0 h
        rw [List.mem_cons, List.mem_cons]
        have hxy : ord x y < 0 := by have := O.neg y x; omega
        constructor
        · rintro (rfl | rfl | h1)
          · exact .inl rfl
          · exact .inr ⟨.inl rfl, h⟩
          · refine .inr ⟨.inr h1, ?_⟩
            have := O.lt_trans hxy (hx z h1)
            have := O.neg x z
            omega
        · rintro (rfl | ⟨h1, h2⟩)
          · exact .inl rfl
          · exact .inr h1
theorem ins_srt (O : Ordd ord) (x : α) : ∀ (l : List α), Srt ord l → Srt ord (ins ord x l)
  | [], _ => by simp [ins, Srt]
  | y :: l, hs => by
    have hs' := List.pairwise_cons.1 hs
    unfold ins
    split
    · rename_i h
      refine List.pairwise_cons.2 ⟨fun z hz => ?_, ins_srt O x l hs'.2⟩
      rcases (ins_mem O x l hs'.2 z).1 hz with rfl | ⟨h1, _⟩
      · exact h
      · exact hs'.1 z h1
    · split
      · rename_i h0 h
        exact List.pairwise_cons.2 ⟨fun z hz => O.lt_of_le_lt (b := y) (by have := O.neg y x; omega) (hs'.1 z hz), hs'.2⟩
      · rename_i h0 h
        have hxy : ord x y < 0 := by have := O.neg y x; omega
        refine List.pairwise_cons.2 ⟨fun z hz => ?_, hs⟩
        rcases List.mem_cons.1 hz with rfl | hz
        · exact hxy
        · exact O.lt_trans hxy (hs'.1 z hz)
theorem insAll_srt (O : Ordd ord) : ∀ (l acc : List α), Srt ord acc → Srt ord (insAll ord acc l)
  | [], _, h => h
  | x :: l, acc, h => insAll_srt O l _ (ins_srt O x acc h)
theorem srtL_srt (O : Ordd ord) (l : List α) : Srt ord (srtL ord l) := insAll_srt O l [] (by simp [Srt])
theorem ins_end : ∀ (l : List α) (x : α), (∀ y ∈ l, ord y x < 0) → ins ord x l = l ++ [x]
  | [], _, _ => rfl
  | y :: l, x, h => by
    unfold ins
    rw [if_pos (h y (by simp)), ins_end l x fun z hz => h z (by simp [hz])]
    rfl
theorem insAll_end : ∀ (l acc : List α), Srt ord (acc ++ l) → insAll ord acc l = acc ++ l
  | [], acc, _ => by simp [insAll]
  | x :: l, acc, h => by
    have hp := List.pairwise_append.1 h
    rw [insAll_cons, ins_end acc x fun y hy => hp.2.2 y hy x (by simp), insAll_end l (acc ++ [x]) (by simpa using h)]
    simp
/-- what is sorted stays as it is -/
theorem srtL_self {l : List α} (h : Srt ord l) : srtL ord l = l := by unfold srtL; rw [insAll_end l [] (by simpa using h)]; rfl
/-- the last of its key -/
def Lst (ord : α → α → Int) (z : α) (l : List α) : Prop := ∃ l1 l2, l = l1 ++ z :: l2 ∧ ∀ y ∈ l2, ord z y ≠ 0
theorem lst_nil (z : α) : ¬ Lst ord z [] := by
  rintro ⟨l1, l2, h, _⟩
  simp at h
theorem lst_append (z : α) (l k : List α) : Lst ord z (l ++ k) ↔ Lst ord z k ∨ (Lst ord z l ∧ ∀ y ∈ k, ord z y ≠ 0) := by
  constructor
  · rintro ⟨l1, l2, h, hy⟩
    rcases List.append_eq_append_iff.1 h with ⟨m, rfl, h2⟩ | ⟨m, rfl, h2⟩
    · exact .inl ⟨m, l2, h2, hy⟩
    · cases m with
      | nil => exact .inl ⟨[], l2, by simpa using h2.symm, hy⟩
      | cons w m =>
        simp only [List.cons_append, List.cons.injEq] at h2
        obtain ⟨rfl, rfl⟩ := h2
        exact .inr ⟨⟨l1, m, rfl, fun y hm => hy y (by simp [hm])⟩, fun y hk => hy y (by simp [hk])⟩
  · rintro (⟨l1, l2, rfl, hy⟩ | ⟨⟨l1, l2, rfl, hy⟩, hk⟩)
    · exact ⟨l ++ l1, l2, by simp, hy⟩
    · refine ⟨l1, l2 ++ k, by simp, fun y h => ?_⟩
      rcases List.mem_append.1 h with h | h
      · exact hy y h
      · exact hk y h
theorem lst_one (z x : α) : Lst ord z [x] ↔ z = x := by
  constructor
  · rintro ⟨l1, l2, h, _⟩
    have hl := congrArg List.length h
    simp only [List.length_cons, List.length_nil, List.length_append] at hl
    have e1 : l1 = [] := List.length_eq_zero_iff.1 (by omega)
    subst e1
    simp only [List.nil_append, List.cons.injEq] at h
    exact h.1.symm
  · rintro rfl
    exact ⟨[], [], rfl, fun y h => by cases h⟩
theorem srtL_mem (O : Ordd ord) (z : α) : ∀ (l : List α), z ∈ srtL ord l ↔ Lst ord z l := by
  intro l
  have key : ∀ n (l : List α), l.length = n → (z ∈ srtL ord l ↔ Lst ord z l) := by
    intro n
    induction n with
    | zero =>
      intro l hl
      rw [List.length_eq_zero_iff.1 hl]
      exact ⟨fun h => (by cases h), fun h => absurd h (lst_nil z)⟩
    | succ n ih =>
      intro l hl
      obtain ⟨k, x, rfl⟩ : ∃ k x, l = k ++ [x] := ⟨l.dropLast, l.getLast (by intro e; rw [e] at hl; simp at hl), (List.dropLast_concat_getLast _).symm⟩
      have hk : k.length = n := by simpa using hl
      rw [srtL_snoc, ins_mem O x _ (srtL_srt O k), ih k hk, lst_append, lst_one]
      simp
  exact key _ l rfl
theorem srt_same (O : Ordd ord) : ∀ (l k : List α), Srt ord l → Srt ord k → (∀ z, z ∈ l ↔ z ∈ k) → l = k
  | [], [], _, _, _ => rfl
  | [], y :: k, _, _, h => absurd ((h y).2 (by simp)) (by simp)
  | x :: l, [], _, _, h => absurd ((h x).1 (by simp)) (by simp)
  | x :: l, y :: k, hl, hk, h => by
    have hl' := List.pairwise_cons.1 hl
    have hk' := List.pairwise_cons.1 hk
    have irr : ∀ a : α, ¬ ord a a < 0 := fun a => by have := O.refl a; omega
    have exy : x = y := by
      rcases List.mem_cons.1 ((h x).1 (by simp)) with e | hx
      · exact e
      · rcases List.mem_cons.1 ((h y).2 (by simp)) with e | hy
        · exact e.symm
        · exact absurd (O.lt_trans (hl'.1 y hy) (hk'.1 x hx)) (irr x)
    subst exy
    congr 1
    refine srt_same O l k hl'.2 hk'.2 fun z => ?_
    constructor
    · intro hz
      rcases List.mem_cons.1 ((h z).1 (by simp [hz])) with rfl | e
      · exact absurd (hl'.1 _ hz) (irr _)
      · exact e
    · intro hz
      rcases List.mem_cons.1 ((h z).2 (by simp [hz])) with rfl | e
      · exact absurd (hk'.1 _ hz) (irr _)
      · exact e
/-- every key of a list is in it, sorted -/
theorem srtL_key (O : Ordd ord) : ∀ (l : List α) (y : α), y ∈ l → ∃ z, z ∈ srtL ord l ∧ ord z y = 0 := by
  intro l
  have key : ∀ n (l : List α), l.length = n → ∀ y, y ∈ l → ∃ z, z ∈ srtL ord l ∧ ord z y = 0 := by
    intro n
    induction n with
    | zero =>
      intro l hl y hy
      rw [List.length_eq_zero_iff.1 hl] at hy
      cases hy
    | succ n ih =>
      intro l hl y hy
      obtain ⟨k, x, rfl⟩ : ∃ k x, l = k ++ [x] := ⟨l.dropLast, l.getLast (by intro e; rw [e] at hl; simp at hl), (List.dropLast_concat_getLast _).symm⟩
      have hk : k.length = n := by simpa using hl
      rw [srtL_snoc]
      by_cases e : ord x y = 0
      · exact ⟨x, (ins_mem O x _ (srtL_srt O k) x).2 (.inl rfl), e⟩
      · rcases List.mem_append.1 hy with h | h
        · obtain ⟨z, hz, h0⟩ := ih k hk y h
          refine ⟨z, (ins_mem O x _ (srtL_srt O k) z).2 (.inr ⟨hz, fun e2 => e (O.zero_trans (O.zero_symm e2) h0)⟩), h0⟩
        · simp only [List.mem_cons, List.not_mem_nil, or_false] at h
          subst h
          exact absurd (O.refl _) e
  exact key _ l rfl
theorem lst_mem {z : α} {l : List α} (h : Lst ord z l) : z ∈ l := by
  obtain ⟨l1, l2, rfl, _⟩ := h
  simp
/-- two lists, sorted, are what both together are -/
theorem srtL_join (O : Ordd ord) (a b : List α) : srtL ord (a ++ b) = srtL ord (srtL ord a ++ srtL ord b) := by
  refine srt_same O _ _ (srtL_srt O _) (srtL_srt O _) fun z => ?_
  rw [srtL_mem O, srtL_mem O, lst_append, lst_append]
  have e1 : ∀ l : List α, Lst ord z (srtL ord l) ↔ Lst ord z l := fun l => by rw [← srtL_mem O z (srtL ord l), srtL_self (srtL_srt O l), srtL_mem O]
  rw [e1, e1]
  have e2 : (∀ y ∈ b, ord z y ≠ 0) ↔ ∀ y ∈ srtL ord b, ord z y ≠ 0 := by
    constructor
    · intro h y hy
      exact h y (lst_mem ((srtL_mem O y b).1 hy))
    · intro h y hy e
      obtain ⟨w, hw, h0⟩ := srtL_key O b y hy
      exact h w hw (O.zero_trans e (O.zero_symm h0))
  rw [e2]
theorem ins_len (x : α) : ∀ l : List α, (ins ord x l).length ≤ l.length + 1
  | [] => by simp [ins]
  | y :: l => by
    unfold ins
    split
    · have := ins_len x l; simp; omega
    · split <;> simp
theorem insAll_len : ∀ (l acc : List α), (insAll ord acc l).length ≤ acc.length + l.length
  | [], acc => by simp [insAll]
  | x :: l, acc => by
    have h1 := insAll_len l (ins ord x acc)
    have h2 := ins_len (ord := ord) x acc
    rw [insAll_cons, List.length_cons]
    omega
theorem srtL_len (l : List α) : (srtL ord l).length ≤ l.length := by have := insAll_len (ord := ord) l []; simpa [srtL] using this
theorem srtL_sub (O : Ordd ord) {l : List α} {z : α} (h : z ∈ srtL ord l) : z ∈ l := lst_mem ((srtL_mem O z l).1 h)
end
end Go.Proofs.YthalpnmejompdaaDoor
