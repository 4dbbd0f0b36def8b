/-
  slices.Insert of one number, by the library's contract.
-/
import Derived.Test.YthalpnmejompdaaDoorRowAt
import Derived.Test.YthalpnmejompdaaDoorInsLay
import Derived.Test.YthalpnmejompdaaDoorPackAct
namespace Go.Proofs.YthalpnmejompdaaDoor
open Go.RowKit

abbrev KI : Kd Nat := ⟨3, 51, 1, 8, fun n => [.int .i64 (n : Int)]⟩
theorem okI : KI.Ok where
  pos := by decide
  len := fun _ => rfl
  one := fun a u hu => by
    simp only [List.mem_cons, List.not_mem_nil, or_false] at hu
    subst hu
    rfl
  under := Tryd.underlying51
  info := infoOf (by kernel_rfl) (by kernel_rfl) (by kernel_rfl)
  small := by decide
  room1 := by decide
theorem infoI : (Tryd.prog.info? 3).map (·.size) = some 1 := by kernel_rfl
/-- one more, at a place -/
def putAt (l : List Nat) (i x : Nat) : List Nat := l.take i ++ x :: l.drop i
theorem putAt_len {l : List Nat} {i : Nat} (hi : i ≤ l.length) (x : Nat) : (putAt l i x).length = l.length + 1 := by simp [putAt]; omega
theorem putAt_get {l : List Nat} {i x t a : Nat} (hi : i ≤ l.length) (h : (putAt l i x)[t]? = some a) : (t < i ∧ l[t]? = some a) ∨ (t = i ∧ a = x) ∨ (i < t ∧ l[t - 1]? = some a) := by
  unfold putAt at h
  have ht : (l.take i).length = i := by rw [List.length_take]; omega
  rcases Nat.lt_trichotomy t i with q | q | q
  · rw [List.getElem?_append_left (by omega), List.getElem?_take_of_lt q] at h
    exact .inl ⟨q, h⟩
  · subst q
    rw [List.getElem?_append_right (by omega), ht] at h
    simp at h
    exact .inr (.inl ⟨rfl, h.symm⟩)
  · rw [List.getElem?_append_right (by omega), ht] at h
    obtain ⟨d, rfl⟩ : ∃ d, t = i + 1 + d := ⟨t - i - 1, by omega⟩
    rw [show i + 1 + d - i = d + 1 by omega, List.getElem?_cons_succ, List.getElem?_drop] at h
    exact .inr (.inr ⟨q, by rw [show i + 1 + d - 1 = i + d by omega]; exact h⟩)
def numsI (l : List Nat) : List Value := l.map fun (n : Nat) => Value.int .i64 (n : Int)
theorem numsI_get {l : List Nat} {t a : Nat} (h : l[t]? = some a) : (numsI l)[t]? = some (.int .i64 (a : Int)) := by simp [numsI, h]
theorem numsI_of {l : List Nat} {t : Nat} {v : Value} (h : (numsI l)[t]? = some v) : ∃ a, l[t]? = some a ∧ v = .int .i64 (a : Int) := by
  simp only [numsI, List.getElem?_map, Option.map_eq_some_iff] at h
  obtain ⟨a, h1, h2⟩ := h
  exact ⟨a, h1, h2.symm⟩
theorem numsI_len (l : List Nat) : (numsI l).length = l.length := by simp [numsI]
theorem numsI_flat : ∀ l : List Nat, KI.flat l = numsI l
  | [] => rfl
  | a :: l => by
    have := numsI_flat l
    unfold Kd.flat numsI at *
    rw [List.flatMap_cons, this]
    rfl
theorem numsI_one (l : List Nat) : ∀ v ∈ numsI l, v.oneCell' = true := by
  intro v hv
  simp only [numsI, List.mem_map] at hv
  obtain ⟨_, _, rfl⟩ := hv
  rfl
/-- numbers at the head of a block -/
theorem KAt.mkI {g cap : Nat} {l : List Nat} {W : World} (h1 : l.length ≤ cap) (h2 : cap ≤ maxLen) {cur : Array Value} (h3 : W.heap[g]? = some (.cells cur 3 (0, 0))) (h4 : cur.size = cap) (h5 : ∀ (i : Nat) a, l[i]? = some a → cur[i]? = some (.int .i64 (a : Int))) : KAt KI g cap l W :=
  ⟨h1, h2, cur, h3, by rw [h4]; exact (Nat.mul_one _).symm, fun i a hi j u hu => by
    have hj : j = 0 := by have := (List.getElem?_eq_some_iff.1 hu).1; simp at this; exact this
    subst hj
    simp only [List.getElem?_cons_zero, Option.some.injEq] at hu
    show cur[i * 1 + 0]? = some u
    rw [Nat.mul_one, Nat.add_zero, ← hu]
    exact h5 i a hi⟩
theorem KAt.curI {g cap : Nat} {l : List Nat} {W : World} (h : KAt KI g cap l W) : ∃ cur, W.heap[g]? = some (.cells cur 3 (0, 0)) ∧ cur.size = cap ∧ ∀ (i : Nat) a, l[i]? = some a → cur[i]? = some (.int .i64 (a : Int)) := by
  obtain ⟨_, _, cur, h3, h4, h5⟩ := h
  refine ⟨cur, h3, by rw [h4]; exact Nat.mul_one _, fun i a hi => ?_⟩
  have := h5 i a hi 0 _ rfl
  rwa [show i * KI.n + 0 = i from Nat.mul_one i] at this
/-- what Insert gives -/
def InsRet (base : Nat) (w : World) (own : Option Nat) (k : List Nat) (e : Ending) (w' : World) : Prop := ∃ v, e = .returned v ∧ KOwns KI base v k w' ∧ w.grownBy w' own
theorem grown_trans {w w1 w2 : World} {r : Option Nat} (h1 : w.grownBy w1 r) (h2 : w1.grownBy w2 r) : w.grownBy w2 r :=
  ⟨h2.os.trans h1.os, h2.tape.trans h1.tape, h2.output.trans h1.output, Nat.le_trans h1.size h2.size, fun k hk hn => (h2.block k (Nat.lt_of_lt_of_le hk h1.size) hn).trans (h1.block k hk hn)⟩
theorem grown_drew (w : World) (r : Option Nat) : w.grownBy w.drew r := ⟨rfl, rfl, rfl, Nat.le_refl _, fun _ _ _ => rfl⟩
/-- of a new row and what is written into it, the old blocks know nothing -/
theorem grown_new {w w1 w2 : World} {r : Option Nat} (h1 : w.grownBy w1 r) (h2 : w1.grownBy w2 (some w.heap.size)) : w.grownBy w2 r :=
  ⟨h2.os.trans h1.os, h2.tape.trans h1.tape, h2.output.trans h1.output, Nat.le_trans h1.size h2.size, fun k hk hn => (h2.block k (Nat.lt_of_lt_of_le hk h1.size) (fun e => by injection e with e; omega)).trans (h1.block k hk hn)⟩
theorem grown_alloc (w : World) (o : Obj) (r : Option Nat) : w.grownBy (w.alloc o) r := ⟨rfl, rfl, rfl, (below1 w o).size, fun k hk _ => (below1 w o).block k hk⟩
theorem madeI (n : Nat) : (Builtin.zeroCells (Value.int .i64 0).cells n).size = n := by simp [Builtin.zeroCells, Value.cells]
theorem stM_ins (cur : Array Value) {l : List Nat} {i x : Nat} (hi : i ≤ l.length) (hs : l.length + 1 ≤ cur.size) (h : ∀ t a, t < i → l[t]? = some a → cur[t]? = some (.int .i64 (a : Int))) :
    ∀ (t : Nat) a, (putAt l i x)[t]? = some a → (stM (stM cur (i + 1) ((numsI l).drop i)) i [.int .i64 (x : Int)])[t]? = some (.int .i64 (a : Int)) := fun t a ht => by
  have hd : ((numsI l).drop i).length = l.length - i := by rw [List.length_drop, numsI_len]
  rcases putAt_get hi ht with ⟨q, e⟩ | ⟨rfl, rfl⟩ | ⟨q, e⟩
  · rw [stM_out _ _ _ _ (.inl q), stM_out _ _ _ _ (.inl (by omega))]
    exact h t a q e
  · exact stM_in _ t _ 0 _ (by rw [stM_size]; simp; omega) rfl
  · rw [stM_out _ _ _ _ (.inr (by simp; omega))]
    have := stM_in ((numsI l).drop i) (i + 1) cur (t - i - 1) (.int .i64 (a : Int)) (by rw [hd]; omega) (by rw [List.getElem?_drop, show i + (t - i - 1) = t - 1 by omega]; exact numsI_get e)
    rwa [show i + 1 + (t - i - 1) = t by omega] at this
theorem stM_ins' (cur : Array Value) {l : List Nat} {i x : Nat} (hi : i ≤ l.length) (hs : l.length + 1 ≤ cur.size) (h : ∀ t a, t < i → l[t]? = some a → cur[t]? = some (.int .i64 (a : Int))) :
    ∀ (t : Nat) a, (putAt l i x)[t]? = some a → (stM (stM cur i [.int .i64 (x : Int)]) (i + 1) ((numsI l).drop i))[t]? = some (.int .i64 (a : Int)) := fun t a ht => by
  have hd : ((numsI l).drop i).length = l.length - i := by rw [List.length_drop, numsI_len]
  rcases putAt_get hi ht with ⟨q, e⟩ | ⟨rfl, rfl⟩ | ⟨q, e⟩
  · rw [stM_out _ _ _ _ (.inl (by omega)), stM_out _ _ _ _ (.inl q)]
    exact h t a q e
  · rw [stM_out _ _ _ _ (.inl (by omega))]
    exact stM_in _ t _ 0 _ (by simp; omega) rfl
  · have := stM_in ((numsI l).drop i) (i + 1) (stM cur i [.int .i64 (x : Int)]) (t - i - 1) (.int .i64 (a : Int)) (by rw [hd, stM_size]; omega) (by rw [List.getElem?_drop, show i + (t - i - 1) = t - 1 by omega]; exact numsI_get e)
    rwa [show i + 1 + (t - i - 1) = t by omega] at this
theorem heap_drew {W : World} {g : Nat} {o : Option Obj} (h : W.heap[g]? = o) : W.drew.heap[g]? = o := h
theorem endGrow_at (w : World) (l : List Nat) (x cap : Nat) (hlen : l.length ≤ 1000000) : KAt KI w.heap.size (grownCap w (l.length + 1) cap 3) (l ++ [x]) (w.drew.alloc (.cells ((numsI l ++ [Value.int .i64 (x : Int)]).toArray ++ Builtin.zeroCells (Value.int .i64 0).cells (grownCap w (l.length + 1) cap 3 - (l.length + 1))) 3)) := by
  have hge := grownCap_ge w (l.length + 1) cap 3
  refine KAt.mkI (by simpa using hge) (grownCap_le_maxLen w _ _ _ (by unfold maxLen; omega)) (heap_alloc_new w.drew _) ?_ ?_
  · rw [Array.size_append, madeI]
    simp [numsI_len]
    omega
  · intro t a ha
    have hlt : t < (numsI l ++ [Value.int .i64 (x : Int)]).length := by have := (List.getElem?_eq_some_iff.1 ha).1; simpa [numsI_len] using this
    rw [Array.getElem?_append_left (by simpa using hlt)]
    have := numsI_get ha
    unfold numsI at this ⊢
    simpa using this
theorem insert_any (base : Nat) (v : Value) (l : List Nat) (i x vb : Nat) (hi : i ≤ l.length) (hlen : l.length ≤ 1000000) (w : World) (hown : KOwns KI base v l w) (hb : base ≤ w.heap.size) (hv : Blk vb #[.int .i64 (x : Int)] 3 w) (hne : ∀ k, v.ownBlock = some k → vb ≠ k) :
    Calls Tryd.prog 41 #[v, .int .i64 i, .slice (some ⟨vb, 0, none⟩) 1 1] w (InsRet base w v.ownBlock (putAt l i x)) := by
  have hvs : ∀ j u, [Value.int .i64 (x : Int)][j]? = some u → w.cell? ⟨vb, 0 + j, none⟩ = some u := fun j u hj => by
    rw [Nat.zero_add, cell_of_row w vb j _ _ _ hv, ← hj]; simp
  have h1v : ∀ u ∈ [Value.int .i64 (x : Int)], u.oneCell' = true := fun u hu => by simp at hu; subst hu; rfl
  rcases hown.2 with ⟨rfl, h0⟩ | ⟨g, cap, cur, rfl, hg, hcur, hcap, hmax, hsz, htk⟩
  · have hl0 : l = [] := List.length_eq_zero_iff.1 h0
    subst hl0
    have hi0 : i = 0 := by simpa using hi
    subst hi0
    refine (Any2.slices_Insert_int_end_grow insInt none 0 0 vb 0 1 1 [] [.int .i64 (x : Int)] w (by decide) (by decide) (by decide) (by decide) rfl rfl (fun _ => rfl) (fun a e => by cases e) hvs h1v).mono ?_
    rintro e w' ⟨rfl, rfl⟩
    exact ⟨_, rfl, KAt.owns okI (endGrow_at w [] x 0 (by simp)) hb, grown_new (grown_drew w _) (grown_alloc _ _ _)⟩
  · have A := (KAt.of okI hown).1
    obtain ⟨cur', hc1, hc2, hc3⟩ := A.curI
    have ecur : cur' = cur := by rw [hcur] at hc1; injection hc1 with hc1; injection hc1 with hc1; exact hc1.symm
    subst ecur
    have hcs : ∀ j u, (numsI l)[j]? = some u → w.cell? ⟨g, 0 + j, none⟩ = some u := fun j u hj => by
      obtain ⟨a, h1, rfl⟩ := numsI_of hj
      rw [Nat.zero_add, cell_of_row w g j _ _ _ hcur]
      exact hc3 j a h1
    have hsome : ∀ j, j < cap → (w.cell? ⟨g, j, none⟩).isSome = true := fun j hj => by
      rw [cell_of_row w g j _ _ _ hcur]
      simp [show j < cur'.size by omega]
    have hfz : ∀ j, w.frozen? ⟨g, j, none⟩ = false := fun j => frozen_of_row _ g _ _ _ hcur
    have hc63 : cap ≤ 9223372036854775807 := by unfold maxLen at hmax; omega
    have hvg : vb ≠ g := hne g rfl
    by_cases hroom : l.length + 1 ≤ cap
    · by_cases hin : i = l.length
      · subst hin
        refine (Any2.slices_Insert_int_end_room insInt g 0 l.length cap vb 0 1 1 [.int .i64 (x : Int)] w (by decide) hroom hc63 rfl (fun j hj => by rw [Nat.zero_add]; exact hsome _ (by omega)) (fun j hj => hfz _) hvs h1v).mono ?_
        rintro e w' ⟨rfl, rfl⟩
        refine ⟨_, rfl, ?_, by rw [Nat.zero_add]; exact grown_stM _ _ _⟩
        have e : putAt l l.length x = l ++ [x] := by simp [putAt]
        have P := KAt.push okI A (i := l.length) rfl (by omega) x
        rw [e, Nat.zero_add]
        have P' := KAt.owns okI P hg
        rw [List.length_append] at P'
        have e2 : l.length * KI.n = l.length := Nat.mul_one _
        rw [e2] at P'
        exact P'
      · have hlt : i < l.length := by omega
        refine (Any2.slices_Insert_int_shift insInt g 0 l.length cap i vb 0 1 1 (numsI l) [.int .i64 (x : Int)] w hlt (by decide) hroom hc63 hvg (numsI_len l) rfl hcs (fun j hj => by rw [Nat.zero_add]; exact hsome _ (by omega)) (fun j hj => hfz _) hvs (numsI_one l) h1v
          3 3 1 cap (by simp [World.shape?, show w.heap[vb]? = _ from hv]) (by simp [World.shape?, hcur, hc2]) (by omega) (frozen_of_row _ vb _ _ _ hv) (frozen_of_row _ vb _ _ _ hv)).mono ?_
        rintro e w' ⟨rfl, rfl⟩
        rw [Nat.zero_add, Nat.zero_add]
        refine ⟨_, rfl, ?_, grown_trans (grown_drew w _) (grown_trans (grown_stM _ _ _) (grown_stM _ _ _))⟩
        have P : KAt KI g cap (putAt l i x) ((w.drew.setCells g (i + 1) ((numsI l).drop i)).setCells g i [.int .i64 (x : Int)]) :=
          KAt.mkI (by rw [putAt_len hi]; exact hroom) hmax (heap_stM _ _ _ _ (heap_stM _ _ _ _ (show w.drew.heap[g]? = _ from hcur))) (by rw [stM_size, stM_size]; exact hc2) (stM_ins cur' hi (by omega) fun t a _ h => hc3 t a h)
        have P' := KAt.owns okI P hg
        rw [putAt_len hi] at P'
        exact P'
    · by_cases hin : i = l.length
      · subst hin
        refine (Any2.slices_Insert_int_end_grow insInt (some ⟨g, 0, none⟩) l.length cap vb 0 1 1 (numsI l) [.int .i64 (x : Int)] w (by decide) hcap (by omega) (by omega) (numsI_len l) rfl (fun e => by cases e) (fun a e j u hj => by injection e with e; subst e; rw [Addr.add_mid]; exact hcs j u hj) hvs h1v).mono ?_
        rintro e w' ⟨rfl, rfl⟩
        have e : putAt l l.length x = l ++ [x] := by simp [putAt]
        refine ⟨_, rfl, ?_, grown_new (grown_drew w _) (grown_alloc _ _ _)⟩
        have P := endGrow_at w l x cap hlen
        rw [e]
        have P' := KAt.owns okI P hb
        rw [List.length_append] at P'
        exact P'
      · have hlt : i < l.length := by omega
        refine (Any2.slices_Insert_int_grow insInt g 0 l.length cap i vb 0 1 1 (numsI l) [.int .i64 (x : Int)] w hlt (by decide) hcap (by omega) (by omega) (numsI_len l) rfl hcs hvs (numsI_one l) h1v).mono ?_
        rintro e w' ⟨rfl, rfl⟩
        refine ⟨_, rfl, ?_, grown_new (grown_alloc w _ _) (grown_trans (grown_drew _ _) (grown_trans (grown_stM _ _ _) (grown_trans (grown_drew _ _) (grown_stM _ _ _))))⟩
        have hge := grownCap_ge w (l.length + 1) cap 3
        have hsr : (((numsI l).take i).toArray ++ Builtin.zeroCells (Value.int .i64 0).cells (l.length + 1 - i) ++ Builtin.zeroCells (Value.int .i64 0).cells (grownCap w (l.length + 1) cap 3 - (l.length + 1))).size = grownCap w (l.length + 1) cap 3 := by
          rw [Array.size_append, Array.size_append, madeI, madeI]
          simp [numsI_len]
          omega
        have hrow : ∀ t a, t < i → l[t]? = some a → (((numsI l).take i).toArray ++ Builtin.zeroCells (Value.int .i64 0).cells (l.length + 1 - i) ++ Builtin.zeroCells (Value.int .i64 0).cells (grownCap w (l.length + 1) cap 3 - (l.length + 1)))[t]? = some (.int .i64 (a : Int)) := fun t a ht ha => by
          have h3 : t < ((numsI l).take i).length := by rw [List.length_take, numsI_len]; omega
          rw [Array.getElem?_append_left (by rw [Array.size_append]; simp; simp at h3; omega), Array.getElem?_append_left (by simpa using h3)]
          have := numsI_get ha
          simp [List.getElem?_take_of_lt ht, this]
        have P := KAt.mkI (l := putAt l i x) (cap := grownCap w (l.length + 1) cap 3) (by rw [putAt_len hi]; exact hge) (grownCap_le_maxLen w _ _ _ (by unfold maxLen; omega)) (heap_stM ((numsI l).drop i) (i + 1) _ _ (heap_drew (heap_stM [Value.int .i64 (x : Int)] i _ _ (heap_drew (heap_alloc_new w (.cells (((numsI l).take i).toArray ++ Builtin.zeroCells (Value.int .i64 0).cells (l.length + 1 - i) ++ Builtin.zeroCells (Value.int .i64 0).cells (grownCap w (l.length + 1) cap 3 - (l.length + 1))) 3)))))) (by rw [stM_size, stM_size]; exact hsr) (stM_ins' _ hi (by rw [hsr]; omega) hrow)
        have P' := KAt.owns okI P hb
        rw [putAt_len hi] at P'
        exact P'
end Go.Proofs.YthalpnmejompdaaDoor
