/-
  slices.Delete of one pointer.
-/
import Derived.Test.YtomnpfbebimpkaaGreatDoorUniTrn
import Derived.Test.YtomnpfbebimpkaaGreatDoorSlFrom
namespace Go.Proofs.YtomnpfbebimpkaaGreatDoor
set_option maxRecDepth 20000
open Go.RowKit

theorem elemX : Tryz.prog.underlying 79 = some (.slice (Tryz.prog.elem 79)) := by kernel_rfl
theorem sizeX (w : World) : (Go.sizeOf (Tryz.prog.elem 79)).run Tryz.prog w = .ok 1 w := by
  obtain ⟨i, z, hi, _, hs, _, _⟩ := okX.info
  have e : Tryz.prog.elem 79 = KX.T := by kernel_rfl
  rw [e]
  simp [Go.sizeOf, typeInfo, hi, hs]
theorem execFromX {a : Act} {oi : Oper} {w : World} {x y : Operand} (ho : oi.op = .slice 79 x (some y) none none) (p : Option Addr) (len cap c : Nat) (hx : a.eval x = .slice p len cap) (hy : a.eval y = .int .i64 (c : Int))
    (hc : c ≤ len) : (execOp a.eval oi).run Tryz.prog w = .ok (.value (fromV 1 p len cap c)) w := by
  unfold execOp
  simp only [ho, hx, Option.map_some, Option.map_none, hy, Sem.run_bind]
  rw [run_sliceAt_slice (h := elemX), run_slice_l (ht := elemX) (h0 := by omega) (h1 := by omega), sizeX]
  simp [Result.andThen, sliced, fromV]
theorem execUptoX {a : Act} {oi : Oper} {w : World} {x y : Operand} (ho : oi.op = .slice 79 x none (some y) none) (p : Option Addr) (len cap c : Nat) (hx : a.eval x = .slice p len cap) (hy : a.eval y = .int .i64 (c : Int))
    (hc : c ≤ len) (hl : len ≤ cap) : (execOp a.eval oi).run Tryz.prog w = .ok (.value (.slice p c cap)) w := by
  unfold execOp
  simp only [ho, hx, Option.map_some, Option.map_none, hy, Sem.run_bind]
  rw [run_sliceAt_slice (h := elemX), run_slice_h (ht := elemX) (h0 := by omega) (h2 := by omega), sizeX]
  have e : (if cap = 0 then p else p.map (·.add (0 * 1))) = p := by
    split
    · rfl
    · cases p with
      | none => rfl
      | some ad => simp [Addr.add]
  simp only [Result.andThen, sliced, Int.toNat_natCast, Nat.sub_zero, e]
  rfl
/-- append where there is room -/
theorem append_roomX (w : World) (ty : TypeId) (i : TypeInfo) (hi : Tryz.prog.info? KX.T = some i) (hs : i.size = 1) (g sLen sCap : Nat) (cur : Array Value) (hg : w.heap[g]? = some (.cells cur KX.T (0, 0)))
    (a : Addr) (m c : Nat) (news : List Value) (hl : news.length = m) (hnews : ∀ j u, news[j]? = some u → w.cell? (a.add j) = some u) (h1 : ∀ u ∈ news, u.oneCell' = true) (hroom : sLen + m ≤ sCap) (hfit : sLen + news.length ≤ cur.size) :
    (Builtin.append_ #[KX.S, KX.S] ty #[.slice (some ⟨g, 0, none⟩) sLen sCap, .slice (some a) m c]).run Tryz.prog w =
      .ok (.slice (some ⟨g, 0, none⟩) (sLen + m) sCap) (w.setRow g (cur.toList.take sLen ++ news ++ cur.toList.drop (sLen + news.length)).toArray) := by
  have hf := run_firstCells_some (P := Tryz.prog) w i.size m a m c news (by rw [hs, Nat.mul_one]; exact hl) hnews
  have hst := run_storeCells_at Tryz.prog g sLen KX.T news 0 cur w hg (by simpa using hfit) h1
  simp only [Nat.add_zero] at hst
  simp only [hs] at hf
  simp [Builtin.append_, run_underlying okX.under, sizeOf, typeInfo, hi, hs, Builtin.lenOf, hroom, hf, Addr.add_lit, hst]
section
variable {g cap n i : Nat} {bs : List Nat} {w w' : World}
def ptrC (b : Nat) : Value := .pointer (some ⟨b, 0, none⟩)
theorem flatX (l : List Nat) : KX.flat l = l.map ptrC := by
  induction l with
  | nil => rfl
  | cons b l ih => unfold Kd.flat at *; rw [List.flatMap_cons, ih]; rfl
/-- s[:i] and s[i+1:] put together, in place -/
theorem KAt.join (h : KAt KX g cap bs w) (hi : i < bs.length) (cur : Array Value) (hc : w.heap[g]? = some (.cells cur KX.T (0, 0))) :
    KAt KX g cap (bs.eraseIdx i) (w.setRow g (cur.toList.take i ++ ((bs.drop (i + 1)).map ptrC) ++ cur.toList.drop (i + ((bs.drop (i + 1)).map ptrC).length)).toArray) := by
  obtain ⟨h1, h2, cur', h3, h4, h5⟩ := h
  rw [hc] at h3
  injection h3 with h3
  injection h3 with h3
  subst h3
  have h4' : cur.size = cap := by rw [h4]; exact Nat.mul_one _
  have hsz : cur.toList.length = cap := by simpa using h4'
  have hl : (bs.eraseIdx i).length = bs.length - 1 := by rw [List.length_eraseIdx, if_pos hi]
  refine ⟨by omega, h2, _, setRow_heap _ _ _ _ _ _ hc, ?_, fun k a ha j u hu => ?_⟩
  · simp [hsz]
    omega
  · have hj : j = 0 := by
      have := (List.getElem?_eq_some_iff.1 hu).1
      simpa using this
    subst hj
    have hu' : u = ptrC a := by simpa [ptrC] using hu.symm
    subst hu'
    have hk : k < bs.length - 1 := by have := (List.getElem?_eq_some_iff.1 ha).1; omega
    have ek : k * KX.n + 0 = k := by show k * 1 + 0 = k; omega
    rw [ek, List.getElem?_toArray]
    by_cases hki : k < i
    · rw [List.append_assoc, List.getElem?_append_left (by rw [List.length_take]; omega), List.getElem?_take_of_lt hki]
      rw [List.getElem?_eraseIdx_of_lt hki] at ha
      have := h5 k a ha 0 (ptrC a) rfl
      rw [show k * KX.n + 0 = k by show k * 1 + 0 = k; omega] at this
      simpa using this
    · rw [List.getElem?_eraseIdx_of_ge (by omega)] at ha
      rw [List.append_assoc, List.getElem?_append_right (by rw [List.length_take]; omega), List.length_take, Nat.min_eq_left (by omega), List.getElem?_append_left (by rw [List.length_map, List.length_drop]; omega), List.getElem?_map, List.getElem?_drop,
        show i + 1 + (k - i) = k + 1 by omega, ha]
      rfl
/-- the last cell wiped -/
theorem run_clearX (w : World) (ty : TypeId) (b o c : Nat) (hc : (w.cell? ⟨b, o, none⟩).isSome = true) (hf : w.frozen? ⟨b, o, none⟩ = false) :
    (Builtin.clear_ #[79] ty #[.slice (some ⟨b, o, none⟩) 1 c]).run Tryz.prog w = .ok (.tuple #[]) (w.setCell ⟨b, o, none⟩ (.pointer none)) := by
  obtain ⟨i, z, hi, hz, hs, hb, hzc⟩ := okX.info
  have hz2 : z.cells = #[.pointer none] := zeroOf zeroX hi hz
  have hv : (zeroValue KX.T).run Tryz.prog w = .ok z w := by simp [zeroValue, typeInfo, hi, hz]
  have hst := run_storeCells_cells (P := Tryz.prog) b o [.pointer none] 0 w (by simpa using hc) (by simpa using hf) (by simp [Value.oneCell'])
  simp only [Nat.add_zero] at hst
  have hz3 : Builtin.zeroCells z.cells 1 = #[.pointer none] := by rw [hz2]; kernel_rfl
  simp [Builtin.clear_, run_underlying okX.under, hv, hz3, hst]
  rfl
theorem appendX {o : Oper} {a : Act} {w : World} {Kt : Act → World → Prop} {Q : Exit → Act → World → Prop} (s x : Operand) (ho : o.op = .call { callee := .builtin .append, args := #[s, x], argTypes := #[KX.S, KX.S] })
    (g i cap n : Nat) (bs : List Nat) (hn : n = bs.length) (hA : KAt KX g cap bs w) (hi : i + 1 ≤ n) (hs : a.eval s = .slice (some ⟨g, 0, none⟩) i cap) (hx : a.eval x = fromV 1 (some ⟨g, 0, none⟩) n cap (i + 1))
    (h : ∀ w', KAt KX g cap (bs.eraseIdx i) w' → Fr [g] w w' → Kt (a.put o.dst (.slice (some ⟨g, 0, none⟩) (i + (n - (i + 1))) cap)) w') : o.wp Tryz.prog a w Kt Q := by
  subst hn
  obtain ⟨h1, h2, cur, h3, h4, h5⟩ := hA
  obtain ⟨ti, z, hi1, hz, hsz, hb, hc⟩ := okX.info
  have h4' : cur.size = cap := by rw [h4]; exact Nat.mul_one _
  have hA : KAt KX g cap bs w := ⟨h1, h2, cur, h3, h4, h5⟩
  obtain ⟨ad, had, hnews⟩ : ∃ ad, (if cap = i + 1 then (some ⟨g, 0, none⟩ : Option Addr) else (some ⟨g, 0, none⟩ : Option Addr).map (·.add ((i + 1) * 1))) = some ad ∧ ∀ j u, ((bs.drop (i + 1)).map ptrC)[j]? = some u → w.cell? (ad.add j) = some u := by
    by_cases hcc : cap = i + 1
    · refine ⟨⟨g, 0, none⟩, by rw [if_pos hcc], fun j u hu => ?_⟩
      rw [List.drop_of_length_le (by omega)] at hu
      simp at hu
    · refine ⟨⟨g, i + 1, none⟩, by rw [if_neg hcc]; simp [Addr.add], fun j u hu => ?_⟩
      rw [List.getElem?_map, List.getElem?_drop, Option.map_eq_some_iff] at hu
      obtain ⟨b, hb, rfl⟩ := hu
      have := hA.range hb 0 (ptrC b) rfl
      rw [show (i + 1 + j) * KX.n + 0 = i + 1 + j by show (i + 1 + j) * 1 + 0 = _; omega] at this
      rw [Addr.add_mid]
      exact this
  have hrun := append_roomX w o.type ti hi1 hsz g i cap cur h3 ad (bs.length - (i + 1)) (cap - (i + 1)) ((bs.drop (i + 1)).map ptrC) (by rw [List.length_map, List.length_drop]) hnews
    (fun u hu => by obtain ⟨b, _, rfl⟩ := List.mem_map.1 hu; rfl) (by omega) (by rw [List.length_map, List.length_drop]; omega)
  have hx' : a.eval x = .slice (some ad) (bs.length - (i + 1)) (cap - (i + 1)) := by rw [hx]; unfold fromV; rw [had]
  have hj := hA.join (i := i) (by omega) cur h3
  unfold Oper.wp execOp
  simp only [ho, resolve, invoke, builtin, Sem.run_bind, Sem.run_pure, Result.andThen_ok, List.map_toArray, List.map_cons, List.map_nil, hs, hx', hrun]
  exact h _ hj (Fr.row w g _ (by simp))
theorem wpThreeX {ops : Array Oper} {rest : List Oper} {oi : Oper} {a : Act} {w : World} {Q : Exit → Act → World → Prop} (hg : oi.guard = none) (x y z u : Operand) (ho : oi.op = .slice 79 x (some y) (some z) (some u)) (p : Option Addr) (len cap : Nat) (l h m : Int)
    (hx : a.eval x = .slice p len cap) (hy : a.eval y = .int .i64 l) (hz : a.eval z = .int .i64 h) (hu : a.eval u = .int .i64 m) (h0 : 0 ≤ l) (h1 : l ≤ h) (h2 : h ≤ m) (h3 : m ≤ cap) (hQ : ∀ v, wpList Tryz.prog ops Q rest (a.put oi.dst v) w) : wpList Tryz.prog ops Q (oi :: rest) a w :=
  wpList_plain hg fun _ hK => by
    have e : (execOp a.eval oi).run Tryz.prog w = .ok (.value (sliced p l.toNat h.toNat m.toNat 1)) w := by
      unfold execOp
      simp only [ho, hx, Option.map_some, hy, hz, hu, Sem.run_bind]
      rw [run_sliceAt_slice (h := elemX), run_slice_lhm (ht := elemX) (h0 := h0) (h1 := h1) (h2 := h2) (h3 := h3), sizeX]
      rfl
    unfold Oper.wp
    rw [e]
    exact hK _ _ (hQ _)
theorem wpLastX {ops : Array Oper} {rest : List Oper} {oi : Oper} {a : Act} {w : World} {Q : Exit → Act → World → Prop} (hg : oi.guard = none) (x y z : Operand) (ho : oi.op = .slice 79 x (some y) (some z) none) (g len cap m n : Nat)
    (hx : a.eval x = .slice (some ⟨g, 0, none⟩) len cap) (hy : a.eval y = .int .i64 (m : Int)) (hz : a.eval z = .int .i64 (n : Int)) (hn : n = m + 1) (hc : n ≤ cap) (hQ : wpList Tryz.prog ops Q rest (a.put oi.dst (.slice (some ⟨g, m, none⟩) 1 (cap - m))) w) : wpList Tryz.prog ops Q (oi :: rest) a w :=
  wpList_plain hg fun _ hK => by
    subst hn
    have e : (execOp a.eval oi).run Tryz.prog w = .ok (.value (.slice (some ⟨g, m, none⟩) 1 (cap - m))) w := by
      unfold execOp
      simp only [ho, hx, Option.map_some, Option.map_none, hy, hz, Sem.run_bind]
      rw [run_sliceAt_slice (h := elemX), run_slice_lh (ht := elemX) (h0 := by omega) (h1 := by omega) (h2 := by omega), sizeX]
      have hne : cap ≠ m := by omega
      simp [Result.andThen, sliced, hne, Addr.add]
      omega
    unfold Oper.wp
    rw [e]
    exact hK _ _ hQ
theorem wpClearX {ops : Array Oper} {rest : List Oper} {o : Oper} {a : Act} {w : World} {Q : Exit → Act → World → Prop} (hg : o.guard = none) (x : Operand) (ho : o.op = .call { callee := .builtin .clear, args := #[x], argTypes := #[79] }) (b k c : Nat)
    (hx : a.eval x = .slice (some ⟨b, k, none⟩) 1 c) (ht : w.there b k 1) (h : wpList Tryz.prog ops Q rest (a.put o.dst (.tuple #[])) (w.setCell ⟨b, k, none⟩ (.pointer none))) : wpList Tryz.prog ops Q (o :: rest) a w :=
  wpList_plain hg fun _ hK => by
    have h0 := ht 0 (by decide)
    have hr := run_clearX w o.type b k c h0.1 h0.2
    unfold Oper.wp execOp
    simp only [ho, resolve, invoke, builtin, Sem.run_bind, Sem.run_pure, Result.andThen_ok, List.map_toArray, List.map_cons, List.map_nil, hx, hr]
    exact hK _ _ h
end
set_option maxHeartbeats 1000000 in
theorem un_delete (g cap B : Nat) (bs : List Nat) (i : Nat) (hi : i < bs.length) (w : World) (h : KOwns KX B (.slice (some ⟨g, 0, none⟩) bs.length cap) bs w) :
    Calls Tryz.prog 77 #[.slice (some ⟨g, 0, none⟩) bs.length cap, .int .i64 (i : Int), .int .i64 ((i : Int) + 1)] w fun e w' =>
      ∃ m, e = .returned (.slice (some ⟨g, 0, none⟩) m cap) ∧ KOwns KX B (.slice (some ⟨g, 0, none⟩) m cap) (bs.eraseIdx i) w' ∧ Fr [g] w w' := by
  obtain ⟨hA0, hge⟩ := KAt.of okX h
  obtain ⟨n, hn⟩ : ∃ n, n = bs.length := ⟨_, rfl⟩
  have HNN := Lib.hid hn
  have hcap := hA0.1
  rw [← hn] at hi hcap ⊢
  have HA := Lib.hid (show KAt KX g cap bs w.drew from hA0.same rfl)
  have HGE := Lib.hid hge
  have HII := Lib.hid (show i ≤ n ∧ n ≤ cap from ⟨by omega, hcap⟩)
  have HIJ := Lib.hid (show i + 1 ≤ n by omega)
  have HI1 := Lib.hid (show ((i : Int) + 1) = ((i + 1 : Nat) : Int) by omega)
  have hne : ((i : Int) == (i : Int) + 1) = false := by simp; omega
  have HTH := Lib.hid (And.intro (show (0 : Int) ≤ (i : Int) by omega) (And.intro (show (i : Int) ≤ (i : Int) + 1 by omega) (And.intro (show (i : Int) + 1 ≤ (n : Int) by omega) (show (n : Int) ≤ (cap : Int) by omega))))
  clear h hA0 hge hn hi hcap
  go_enter Tryz.func77, Tryz.ntmps77
  go_upto_region 5 with (refine wpThreeX rfl _ _ _ _ rfl _ _ _ _ _ _ rfl rfl rfl rfl HTH.out.1 HTH.out.2.1 HTH.out.2.2.1 HTH.out.2.2.2 (fun v => ?_))
  refine wp_region_held_drew (S := fun _ => True) (by kernel_rfl) trivial (fun hS => ?_)
  generalize hW : w.drew = W at *
  have HF0 := Lib.hid (show Fr [g] w W from Fr.of (by rw [← hW]; exact (Below.refl _ w).drew))
  clear hW
  refine seqRead 0 (v := _) rfl (by kernel_rfl) (by kernel_rfl) (by kernel_rfl) (fun _ _ _ h => h) rfl (fun w hSw => by go_simp <;> with_reducible rfl) hS ?_
  try simp only [Act.put, List.setIfInBounds_toArray, List.set_cons_zero, List.set_cons_succ]
  refine seqRead 1 (v := _) rfl (by kernel_rfl) (by kernel_rfl) (by kernel_rfl) (fun _ _ _ h => h) rfl (fun w hSw => by go_simp <;> with_reducible rfl) hS ?_
  try simp only [Act.put, List.setIfInBounds_toArray, List.set_cons_zero, List.set_cons_succ]
  refine seqRead 2 (v := _) rfl (by kernel_rfl) (by kernel_rfl) (by kernel_rfl) (fun _ _ _ h => h) rfl (fun w hSw => (show (execOp _ _).run _ w = .ok (.value (.slice (some ⟨g, 0, none⟩) i cap)) w from execUptoX rfl (some ⟨g, 0, none⟩) n cap i rfl rfl HII.out.1 HII.out.2)) hS ?_
  try simp only [Act.put, List.setIfInBounds_toArray, List.set_cons_zero, List.set_cons_succ]
  refine seqRead 3 (v := _) rfl (by kernel_rfl) (by kernel_rfl) (by kernel_rfl) (fun _ _ _ h => h) rfl (fun w hSw => by go_simp <;> with_reducible rfl) hS ?_
  try simp only [Act.put, List.setIfInBounds_toArray, List.set_cons_zero, List.set_cons_succ]
  refine seqRead 4 (v := _) rfl (by kernel_rfl) (by kernel_rfl) (by kernel_rfl) (fun _ _ _ h => h) rfl (fun w hSw => by go_simp <;> with_reducible rfl) hS ?_
  try simp only [Act.put, List.setIfInBounds_toArray, List.set_cons_zero, List.set_cons_succ]
  refine seqRead 5 (v := _) rfl (by kernel_rfl) (by kernel_rfl) (by kernel_rfl) (fun _ _ _ h => h) rfl (fun w hSw => (show (execOp _ _).run _ w = .ok (.value (fromV 1 (some ⟨g, 0, none⟩) n cap (i + 1))) w from execFromX rfl (some ⟨g, 0, none⟩) n cap (i + 1) rfl (by rw [HI1.out]; rfl) HIJ.out)) hS ?_
  try simp only [Act.put, List.setIfInBounds_toArray, List.set_cons_zero, List.set_cons_succ]
  refine seqCall 6 rfl (by kernel_rfl) rfl (fun K hK => ?_)
  refine appendX (.tmp 22) (.tmp 25) rfl g i cap n bs HNN.out HA.out HIJ.out rfl rfl (fun w1 hk1 hf1 => ?_)
  refine hK.out _ _ trivial (fun hS => ?_)
  clear hK K
  try simp only [Act.put, List.setIfInBounds_toArray, List.set_cons_zero, List.set_cons_succ]
  refine seqRead 7 (v := _) rfl (by kernel_rfl) (by kernel_rfl) (by kernel_rfl) (fun _ _ _ h => h) rfl (fun w hSw => by go_simp <;> with_reducible rfl) hS ?_
  try simp only [Act.put, List.setIfInBounds_toArray, List.set_cons_zero]
  refine seqDone (by kernel_rfl) ?_
  clear hS
  have HA1 := Lib.hid hk1
  have HF1 := Lib.hid hf1
  obtain ⟨m, hm⟩ : ∃ m, m = i + (n - (i + 1)) := ⟨_, rfl⟩
  have HM := Lib.hid (show n = m + 1 by have := HIJ.out; omega)
  have HML := Lib.hid (show m = (bs.eraseIdx i).length by rw [List.length_eraseIdx, if_pos (by have := HIJ.out; have := HNN.out; omega), ← HNN.out]; have := HIJ.out; omega)
  rw [← hm]
  clear hk1 hf1 HA hm
  have HT := Lib.hid (show w1.there g m 1 by
    have h := HA1.out.there (i := m) (by have := HM.out; have := HII.out.2; omega)
    intro j hj
    have := h j hj
    rwa [show m * KX.n + j = m + j by show m * 1 + j = _; omega] at this)
  go_wp2_with (first
    | (refine wpLastX rfl _ _ _ rfl g m cap m n rfl rfl rfl HM.out HII.out.2 ?_)
    | (refine wpClearX rfl _ rfl g m (cap - m) rfl HT.out ?_; refine Hid.out ?_))
  have HA2 := Lib.hid (HA1.out.far okX (off := m) (.pointer none) (by show (bs.eraseIdx i).length * 1 ≤ m; rw [← HML.out]; omega))
  have HF2 := Lib.hid ((HF0.out.tr HF1.out).tr (Fr.cell w1 ⟨g, m, none⟩ (.pointer none) (by simp)))
  clear HT HA1 HF1 HF0
  generalize w1.setCell ⟨g, m, none⟩ (.pointer none) = w2 at *
  refine Lib.hid ?_
  go_wp2_with fail
  go_ret
  exact ⟨m, rfl, by rw [HML.out]; exact KAt.owns okX HA2.out HGE.out, HF2.out⟩
end Go.Proofs.YtomnpfbebimpkaaGreatDoor
