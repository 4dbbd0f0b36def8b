/-
  append of any cubes to a slice of one's own; the walk of slices.Clone.
-/
import Derived.Test.YtamjaohoicedfaaDoorSpaceSnd
import Derived.Lib.SliceRun
namespace Go.Proofs.YtamjaohoicedfaaDoor
open Go.RowKit

theorem flat_nth : ∀ (l : List (Nat → Int)) (j : Nat) (u : Value), (flat l)[j]? = some u → j / 24 < l.length ∧ (cl (nth l (j / 24)))[j % 24]? = some u
  | [], j, u, h => by simp [flat] at h
  | a :: l, j, u, h => by
    have e : flat (a :: l) = cl a ++ flat l := rfl
    rw [e] at h
    by_cases hj : j < 24
    · rw [List.getElem?_append_left (by rw [cl_len]; exact hj)] at h
      have h0 : j / 24 = 0 := Nat.div_eq_of_lt hj
      rw [h0, Nat.mod_eq_of_lt hj]
      exact ⟨by simp, h⟩
    · rw [List.getElem?_append_right (by rw [cl_len]; omega), cl_len] at h
      obtain ⟨h1, h2⟩ := flat_nth l (j - 24) u h
      have e1 : j / 24 = (j - 24) / 24 + 1 := by omega
      have e2 : (j - 24) % 24 = j % 24 := by omega
      rw [e1, ← e2]
      exact ⟨by simpa using h1, h2⟩
theorem flat_append (l k : List (Nat → Int)) : flat (l ++ k) = flat l ++ flat k := by simp [flat]
theorem flat_one (l : List (Nat → Int)) : ∀ u ∈ flat l, u.oneCell' = true := by
  intro u hu
  unfold flat at hu
  obtain ⟨a, _, h⟩ := List.mem_flatMap.1 hu
  exact cl_one a u h
theorem Lies.news {ad : Addr} {n cap : Nat} {l : List (Nat → Int)} {W : World} (h : Lies (.slice (some ad) n cap) l W) : ∀ j u, (flat l)[j]? = some u → W.cell? (ad.add j) = some u := by
  intro j u hu
  obtain ⟨h1, h2⟩ := flat_nth l j u hu
  obtain ⟨b, o, e, h3⟩ := h.at h1
  injection e with e
  subst e
  have := h3 (j % 24) u h2
  rw [Addr.add_mid, show o + j = o + j / 24 * 24 + j % 24 by omega]
  exact this
/-- Any cubes more at a slice of one's own. -/
theorem appendL {ops : Array Oper} {rest : List Oper} {o : Oper} {a : Act} {w : World} {Q : Exit → Act → World → Prop} (hgd : o.guard = none) (s x : Operand)
    (ho : o.op = .call { callee := .builtin .append, args := #[s, x], argTypes := #[22, 22] }) (base : Nat) (v : Value) (l k : List (Nat → Int)) (hs : a.eval s = v) (hown : Owns base v l w)
    (u : Value) (hx : a.eval x = u) (hk : Lies u k w) (hbase : base ≤ w.heap.size) (hlen : l.length + k.length ≤ 1000000)
    (h : ∀ v' w', Owns base v' (l ++ k) w' → w.grownBy w' v.ownBlock → (v'.ownBlock = v.ownBlock ∨ v'.ownBlock = some w.heap.size) → wpList Tryd.prog ops Q rest (a.put o.dst v') w') : wpList Tryd.prog ops Q (o :: rest) a w := by
  obtain ⟨i, z, hi, hz, hsz, hby, hc⟩ := cubeInfo
  rcases hk with ⟨rfl, rfl⟩ | ⟨ad, cap, rfl, hcap, hr⟩
  · refine wpList_append_own_none hgd s x 22 ho base 30 i 24 Tryd.underlying22 hi v l.length (flat l) hs hown hx (h v w ?_ ⟨rfl, rfl, rfl, Nat.le_refl _, fun _ _ _ => rfl⟩ (.inl rfl))
    rw [List.append_nil]
    exact hown
  · refine wpList_append_own_at w hgd s x 22 ho base 30 i z 24 192 Tryd.underlying22 hi hz hsz hby (by rw [hc]; rfl) (by decide) v l.length (flat l) hs hown ad k.length cap (flat k) hx (flat_len k)
      (Lies.news (.inr ⟨ad, cap, rfl, hcap, hr⟩)) (flat_one k) (by unfold maxLen; omega) (by omega) hbase fun v' w' h1 h2 _ h4 => h v' w' ?_ h2 h4
    unfold Owns
    rw [List.length_append, flat_append]
    exact h1
/-- A slice of nothing, written out. -/
theorem buildNone {ops : Array Oper} {rest : List Oper} {o : Oper} {a : Act} {w : World} {Q : Exit → Act → World → Prop} (hg : o.guard = none) (ho : o.op = .buildSlice 22 0 #[])
    (h : wpList Tryd.prog ops Q rest (a.put o.dst (.slice (some ⟨w.heap.size, 0, none⟩) 0 0)) (w.alloc (.cells #[] 30))) : wpList Tryd.prog ops Q (o :: rest) a w := by
  obtain ⟨i, z, hi, hz, hs, hb, hc⟩ := cubeInfo
  refine wpList_plain hg fun K hK => ?_
  have hr : ∀ parts : Array (Nat × Value), parts.toList = [] → (Instr.buildSlice 22 0 parts).run Tryd.prog w = .ok (.slice (some ⟨w.heap.size, 0, none⟩) 0 0) (w.alloc (.cells #[] 30)) := fun parts hp => by
    simp [Instr.buildSlice, run_underlying Tryd.underlying22, sizeOf, typeInfo, hi, hp, Instr.fill, newRow]
    congr 2
    exact Array.eq_empty_of_size_eq_zero (by simp)
  unfold Oper.wp execOp
  simp only [ho, Sem.run_bind]
  rw [hr _ (by simp)]
  exact hK _ _ h
theorem Owns.built (w : World) (base : Nat) (hb : base ≤ w.heap.size) : Owns base (.slice (some ⟨w.heap.size, 0, none⟩) 0 0) [] (w.alloc (.cells #[] 30)) :=
  World.ownsRow_made w #[] 0 hb (by unfold maxLen; decide) rfl
theorem belowOwn {base : Nat} {w W W' : World} {v : Value} {l : List (Nat → Int)} (hb : Below w.heap.size w W) (ho : Owns base v l W) (hbase : w.heap.size ≤ base) (hg : W.grownBy W' v.ownBlock) : Below w.heap.size w W' :=
  hb.grown hg hb.size fun k e => Nat.le_trans hbase (ho.ge k e)
set_option maxHeartbeats 400000 in
theorem clone_any (v : Value) (l : List (Nat → Int)) (hlen : l.length ≤ 1000000) (w : World) (hl : Lies v l w) :
    Calls Tryd.prog 37 #[v] w (LessRet w l) := by
  rcases hl with ⟨rfl, rfl⟩ | ⟨ad, cap, rfl, hcap, hr⟩
  · have HO := Lib.hid (Owns.nil w.heap.size w)
    go_enter Tryd.func37, Tryd.ntmps37
    have hq := Lib.run_eql_slice_nil (P := Tryd.prog) w 22 30 none 0 0 0 0 Tryd.underlying22
    go_wp2
    go_ret
    exact ⟨_, rfl, HO.out, Below.refl _ _⟩
  · have HL := Lib.hid (show Lies (.slice (some ad) l.length cap) l (w.alloc (.cells #[] 30)) from (show Lies (.slice (some ad) l.length cap) l w from .inr ⟨ad, cap, rfl, hcap, hr⟩).below (below1 _ _))
    have hq := Lib.run_eql_slice_nil (P := Tryd.prog) w 22 30 (some ad) l.length cap 0 0 Tryd.underlying22
    clear hr
    go_enter Tryd.func37, Tryd.ntmps37
    go_wp2_with (first
      | (refine buildNone rfl rfl ?_)
      | (refine appendL rfl _ _ rfl w.heap.size _ [] l rfl (Owns.built w _ (Nat.le_refl _)) _ rfl HL.out (by simp) (by simpa using hlen) (fun v' w' ho hg _ => ?_)))
    have hb := belowOwn (below1 w (.cells #[] 30)) (Owns.built w w.heap.size (Nat.le_refl _)) (Nat.le_refl _) hg
    go_ret
    exact ⟨_, rfl, ho, hb⟩
end Go.Proofs.YtamjaohoicedfaaDoor
