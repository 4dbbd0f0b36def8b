/-
  What goes and comes between tables, and how it is undone: no word of any program.
-/
import Derived.Test.YtomnpfbebimpkaaGreatDoorPackMod
namespace Go.Proofs.YtomnpfbebimpkaaGreatDoor
set_option maxRecDepth 20000

/-- a rule whose match says nothing beyond its cells -/
def Can (u : Ru) : Prop := ∀ j, 24 ≤ j → u.m j = 0
def CanL (us : List Ru) : Prop := ∀ u ∈ us, Can u
/-- a match that says nothing beyond its cells -/
def canC (m : Nat → Int) : Nat → Int := fun j => if j < 24 then m j else 0
def canU (u : Ru) : Ru := { u with m := canC u.m }
def canR (r : Rm) : Rm := ⟨canU r.u, r.q, r.n, r.c⟩
theorem canC_lt {m : Nat → Int} {j : Nat} (h : j < 24) : canC m j = m j := by unfold canC; rw [if_pos h]
theorem canC_ge {m : Nat → Int} {j : Nat} (h : 24 ≤ j) : canC m j = 0 := by unfold canC; rw [if_neg (by omega)]
theorem canU_can (u : Ru) : Can (canU u) := fun _ hj => canC_ge hj
theorem cl_can (m : Nat → Int) : cl (canC m) = cl m := by
  unfold cl
  exact List.map_congr_left fun j hj => by rw [canC_lt (by simpa using hj)]
theorem rcl_can (r : Rm) : rcl (canR r) = rcl r := by
  show cl (canC r.u.m) ++ rtl (canR r) = cl r.u.m ++ rtl r
  rw [cl_can]
  rfl
theorem wf_canC {m : Nat → Int} (h : Wf m) : Wf (canC m) := fun j => by
  by_cases hj : j < 24
  · rw [canC_lt hj]; exact h j
  · rw [canC_ge (by omega)]; exact ⟨by decide, by decide⟩
theorem wf_can {u : Ru} (h : WfR u) : WfR (canU u) := ⟨wf_canC h.m, h.a, h.room, h.nums⟩
/-- a slice of rules holds their like that say nothing beyond their cells -/
theorem RLies.can {v : Value} {l : List Rm} {W : World} (h : RLies v l W) : RLies v (l.map canR) W := by
  refine ⟨?_, fun r hr => ?_⟩
  · rcases h.1 with ⟨e, rfl⟩ | ⟨ad, cap, e, hc, hr⟩
    · exact .inl ⟨e, rfl⟩
    · refine .inr ⟨ad, cap, by rw [List.length_map]; exact e, by rw [List.length_map]; exact hc, fun i a hi => ?_⟩
      rw [List.getElem?_map, Option.map_eq_some_iff] at hi
      obtain ⟨x, hx, rfl⟩ := hi
      obtain ⟨h1, h2⟩ := hr i x hx
      refine ⟨h1, ?_⟩
      show W.rangeAt _ _ (rcl (canR x))
      rw [rcl_can]
      exact h2
  · obtain ⟨x, hx, rfl⟩ := List.mem_map.1 hr
    exact h.2 x hx
theorem WfRL.can {l : List Rm} (h : WfRL l) : WfRL (l.map canR) := fun r hr => by
  obtain ⟨x, hx, rfl⟩ := List.mem_map.1 hr
  exact wf_can (h x hx)
theorem canL_map (l : List Rm) : CanL ((l.map canR).map (·.u)) := fun u hu => by
  obtain ⟨r, hr, rfl⟩ := List.mem_map.1 hu
  obtain ⟨x, _, rfl⟩ := List.mem_map.1 hr
  exact canU_can x.u
theorem rEq_iff {a b : Ru} (ha : Can a) (hb : Can b) : rEq a b = true ↔ a = b := by
  constructor
  · intro h
    unfold rEq keyB at h
    simp only [Bool.and_eq_true, beq_iff_eq] at h
    obtain ⟨⟨h1, h2⟩, h3, h4, h5, h6, h7, h8, h9⟩ := h
    have hm : a.m = b.m := by
      funext j
      by_cases hj : j < 24
      · exact (cEq_iff _ _).1 h2 j hj
      · rw [ha j (by omega), hb j (by omega)]
    have h3' := (aEqL_iff _ _).1 h3
    obtain ⟨am, ap, aa, ai, ah, ao, ahi, aq, ag⟩ := a
    obtain ⟨bm, bp, ba, bi, bh, bo, bhi, bq, bg⟩ := b
    simp only at hm h1 h3' h4 h5 h6 h7 h8 h9
    subst hm h1 h3' h4 h5 h6 h7 h8 h9
    rfl
  · rintro rfl
    exact rEq_self a
/-- is a rule just so in a list? -/
def inL (a : Ru) (B : List Ru) : Bool := B.any (rEq a)
theorem inL_iff {a : Ru} {B : List Ru} (ha : Can a) (hB : CanL B) : inL a B = true ↔ a ∈ B := by
  unfold inL
  rw [List.any_eq_true]
  constructor
  · rintro ⟨b, hb, h⟩
    rw [(rEq_iff ha (hB b hb)).1 h]
    exact hb
  · intro h
    exact ⟨a, h, rEq_self a⟩
theorem inL_self {a : Ru} {B : List Ru} (h : a ∈ B) : inL a B = true := by
  unfold inL
  rw [List.any_eq_true]
  exact ⟨a, h, rEq_self a⟩
/-- the rules of the first list that are not just so in the second -/
def aloneL (A B : List Ru) : List Ru := A.filter fun a => !inL a B
/-- have a rule of the first list and one of the second the same key? -/
def clash (A B : List Ru) : Bool := A.any fun x => B.any fun y => keyB x y
def swapE (l g c : List Ru) : Int := if (tabU l && (tabU g && tabU c)) = false then 2 else if (aloneL g l).isEmpty = false then 4 else if clash (aloneL l g) c then 5 else 0
def swapL (l g c : List Ru) : List Ru := tblOf (aloneL l g ++ c)
def swapV (l g c : List Ru) : List Ru := if swapE l g c = 0 then swapL l g c else []
/-- what goes and what comes from a table to another -/
def difG (a b : List Ru) : List Ru := if (tabU a && tabU b) = true then aloneL a b else []
def difN (a b : List Ru) : List Ru := difG b a
section
variable {A B C l : List Ru} {z : Ru}
theorem alone_mem (hz : Can z) (hB : CanL B) : z ∈ aloneL A B ↔ z ∈ A ∧ z ∉ B := by
  unfold aloneL
  rw [List.mem_filter]
  refine and_congr_right fun _ => ?_
  rw [Bool.not_eq_true', ← Bool.not_eq_true, inL_iff hz hB]
theorem alone_sub (h : z ∈ aloneL A B) : z ∈ A := (List.mem_filter.1 h).1
theorem alone_len (A B : List Ru) : (aloneL A B).length ≤ A.length := List.length_filter_le _ _
theorem alone_tab (h : tabU A = true) : tabU (aloneL A B) = true := by
  obtain ⟨h1, h2⟩ := (tabU_iff A).1 h
  exact (tabU_iff _).2 ⟨fun u hu => h1 u (alone_sub hu), List.Pairwise.filter _ h2⟩
theorem alone_can (h : CanL A) : CanL (aloneL A B) := fun u hu => h u (alone_sub hu)
theorem alone_wf (h : WfUL A) : WfUL (aloneL A B) := fun u hu => h u (alone_sub hu)
theorem alone_self (l : List Ru) : aloneL l l = [] := by
  unfold aloneL
  rw [List.filter_eq_nil_iff]
  intro u hu
  rw [inL_self hu]
  decide
theorem alone_nil (l : List Ru) : aloneL l [] = l := by
  unfold aloneL
  rw [List.filter_eq_self]
  intro u _
  rfl
theorem nil_alone (l : List Ru) : aloneL [] l = [] := rfl
theorem lst_srt {A : List Ru} (h : Srt rOrd A) : Lst rOrd z A ↔ z ∈ A := by rw [← srtL_mem rOrd_ordd, srtL_self h]
theorem tbl_self (h : tabU l = true) : tblOf l = l := by
  obtain ⟨h1, h2⟩ := (tabU_iff l).1 h
  unfold tblOf
  rw [List.filter_eq_self.2 h1, srtL_self h2]
/-- two tables with no key in common, together -/
theorem tbl_two (hA : tabU A = true) (hB : tabU B = true) (hc : clash A B = false) : z ∈ tblOf (A ++ B) ↔ z ∈ A ∨ z ∈ B := by
  obtain ⟨a1, a2⟩ := (tabU_iff A).1 hA
  obtain ⟨b1, b2⟩ := (tabU_iff B).1 hB
  unfold tblOf
  rw [List.filter_append, List.filter_eq_self.2 a1, List.filter_eq_self.2 b1, srtL_mem rOrd_ordd, lst_append, lst_srt a2, lst_srt b2]
  constructor
  · rintro (h | ⟨h, _⟩)
    · exact .inr h
    · exact .inl h
  · rintro (h | h)
    · refine .inr ⟨h, fun y hy e => ?_⟩
      have hk : keyB z y = true := (key_iff z y).2 e
      have : clash A B = true := by
        unfold clash
        rw [List.any_eq_true]
        exact ⟨z, h, List.any_eq_true.2 ⟨y, hy, hk⟩⟩
      rw [hc] at this
      cases this
    · exact .inl h
/-- of two rules of a table with one key the first is the second -/
theorem tab_key (h : tabU A = true) {x y : Ru} (hx : x ∈ A) (hy : y ∈ A) (hk : keyB x y = true) : x = y := by
  obtain ⟨_, h2⟩ := (tabU_iff A).1 h
  have h0 := (key_iff x y).1 hk
  have h0' := rOrd_ordd.zero_symm h0
  have : ∀ {L : List Ru}, Srt rOrd L → x ∈ L → y ∈ L → x = y := by
    intro L
    induction L with
    | nil => intro _ hx; cases hx
    | cons a L ih =>
      intro hs hx hy
      obtain ⟨s1, s2⟩ := List.pairwise_cons.1 hs
      rcases List.mem_cons.1 hx with ex | hx1 <;> rcases List.mem_cons.1 hy with ey | hy1
      · rw [ex, ey]
      · have := s1 y hy1; rw [← ex] at this; omega
      · have := s1 x hx1; rw [← ey] at this; omega
      · exact ih s2 hx1 hy1
  exact this h2 hx hy
/-- what goes and comes makes the second table of the first -/
theorem diff_swap (hA : tabU A = true) (hB : tabU B = true) (cA : CanL A) (cB : CanL B) : swapE A (aloneL A B) (aloneL B A) = 0 ∧ swapL A (aloneL A B) (aloneL B A) = B := by
  have cl1 := alone_can (B := B) cA
  have left : ∀ z, z ∈ aloneL A (aloneL A B) → z ∈ A ∧ z ∈ B := fun z hz => by
    have hz' := alone_sub hz
    have := ((alone_mem (cA z hz') cl1).1 hz).2
    refine ⟨hz', ?_⟩
    by_cases hb : z ∈ B
    · exact hb
    · exact absurd ((alone_mem (cA z hz') cB).2 ⟨hz', hb⟩) this
  have hc : clash (aloneL A (aloneL A B)) (aloneL B A) = false := by
    cases h : clash (aloneL A (aloneL A B)) (aloneL B A)
    · rfl
    · unfold clash at h
      rw [List.any_eq_true] at h
      obtain ⟨x, hx, h⟩ := h
      rw [List.any_eq_true] at h
      obtain ⟨y, hy, hk⟩ := h
      obtain ⟨xa, xb⟩ := left x hx
      have yb := alone_sub hy
      have e := tab_key hB xb yb hk
      subst e
      exact absurd xa ((alone_mem (cB x yb) cA).1 hy).2
  have hn : (aloneL (aloneL A B) A).isEmpty = true := by
    rw [List.isEmpty_iff]
    refine List.eq_nil_iff_forall_not_mem.2 fun z hz => ?_
    have hz' := alone_sub hz
    exact ((alone_mem (cA z (alone_sub hz')) cA).1 hz).2 (alone_sub hz')
  have t1 := alone_tab (B := aloneL A B) hA
  have t2 := alone_tab (B := A) hB
  have he : swapE A (aloneL A B) (aloneL B A) = 0 := by
    unfold swapE
    rw [if_neg (by rw [hA, alone_tab hA, t2]; decide), if_neg (by rw [hn]; decide), if_neg (by rw [hc]; decide)]
  refine ⟨he, ?_⟩
  unfold swapL
  refine srt_same rOrd_ordd _ _ (tblOf_srt _) ((tabU_iff B).1 hB).2 fun z => ?_
  rw [tbl_two t1 t2 hc]
  constructor
  · rintro (h | h)
    · exact (left z h).2
    · exact alone_sub h
  · intro h
    by_cases ha : z ∈ A
    · refine .inl ((alone_mem (cA z ha) cl1).2 ⟨ha, fun hq => ?_⟩)
      exact ((alone_mem (cA z ha) cB).1 hq).2 h
    · exact .inr ((alone_mem (cB z h) cA).2 ⟨h, ha⟩)
/-- nothing that goes, nothing that comes -/
theorem still_swap (h : tabU l = true) : swapE l [] [] = 0 ∧ swapL l [] [] = l := by
  constructor
  · unfold swapE
    rw [if_neg (by rw [h]; decide), if_neg (by rw [nil_alone]; decide), if_neg]
    unfold clash
    simp
  · unfold swapL
    rw [alone_nil, List.append_nil, tbl_self h]
theorem still_no (h : tabU l = false) (g c : List Ru) : swapE l g c = 2 := by unfold swapE; rw [if_pos (by rw [h]; rfl)]
theorem swap_len (l g c : List Ru) : (swapL l g c).length ≤ l.length + c.length := by
  have h1 := srtL_len (ord := rOrd) ((aloneL l g ++ c).filter sndR)
  have h2 := List.length_filter_le sndR (aloneL l g ++ c)
  have h3 := alone_len l g
  unfold swapL tblOf
  rw [List.length_append] at h2
  omega
theorem swap_sub (h : z ∈ swapL l B C) : z ∈ l ∨ z ∈ C := by
  have := (List.mem_filter.1 (srtL_sub rOrd_ordd h)).1
  rcases List.mem_append.1 this with q | q
  · exact .inl (alone_sub q)
  · exact .inr q
theorem swap_can (hl : CanL l) (hc : CanL C) : CanL (swapL l B C) := fun z hz => (swap_sub hz).elim (hl z) (hc z)
theorem swap_wf (hl : WfUL l) (hc : WfUL C) : WfUL (swapL l B C) := fun z hz => (swap_sub hz).elim (hl z) (hc z)
theorem swap_tab (l B C : List Ru) : tabU (swapL l B C) = true := by
  refine (tabU_iff _).2 ⟨fun z hz => ?_, tblOf_srt _⟩
  have : z ∈ (aloneL l B ++ C).filter sndR := srtL_sub rOrd_ordd hz
  exact (List.mem_filter.1 this).2
/-- a change keeps rules that say nothing beyond their cells -/
theorem apply_can {us : List Ru} {m : Mu} (hu : CanL us) (hm : ∀ j, 24 ≤ j → m.m j = 0) : CanL (applyL us m) := fun z hz => by
  unfold applyL at hz
  split at hz
  · have := (List.mem_filter.1 (srtL_sub rOrd_ordd hz)).1
    rcases List.mem_append.1 this with q | q
    · exact hu z q
    · simp only [List.mem_cons, List.not_mem_nil, or_false] at q
      subst q
      exact hm
  · split at hz
    · obtain ⟨v, hv, rfl⟩ := List.mem_map.1 hz
      have e := (mod_m m v).1
      intro j hj
      rw [e]
      exact hu v hv j hj
    · exact hu z (List.mem_filter.1 hz).1
end
/-- the same rules: those of one list say what those of the other say -/
theorem sameL_eq {l k : List Ru} (hl : CanL l) (hk : CanL k) : sameL l k = true ↔ l = k := by
  induction l generalizing k with
  | nil => cases k <;> simp [sameL]
  | cons a l ih =>
    cases k with
    | nil => simp [sameL]
    | cons b k =>
      simp only [sameL, Bool.and_eq_true, List.cons.injEq]
      rw [rEq_iff (hl a (List.mem_cons_self ..)) (hk b (List.mem_cons_self ..)), ih (fun u hu => hl u (List.mem_cons_of_mem _ hu)) (fun u hu => hk u (List.mem_cons_of_mem _ hu))]
end Go.Proofs.YtomnpfbebimpkaaGreatDoor
