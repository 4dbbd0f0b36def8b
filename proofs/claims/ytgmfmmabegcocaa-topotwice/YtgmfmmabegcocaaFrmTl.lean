/-
  A slice that lies anywhere in a block of one's own, with room behind it: cut from the front, appended to.
-/
import Derived.Test.YtgmfmmabegcocaaCodEq
namespace Go.Proofs.Ytgmfmmabegcocaa
set_option maxRecDepth 20000
open Go.RowKit

theorem append_room_off {P : Program} (w : World) (t ty e : TypeId) (i : TypeInfo) (ht : P.underlying t = some (.slice e)) (hi : P.info? e = some i)
    (g off sLen sCap : Nat) (cur : Array Value) (hg : w.heap[g]? = some (.cells cur e (0, 0)))
    (a : Addr) (m c : Nat) (news : List Value) (hl : news.length = m * i.size) (hnews : ∀ j u, news[j]? = some u → w.cell? (a.add j) = some u) (h1 : ∀ u ∈ news, u.oneCell' = true)
    (hroom : sLen + m ≤ sCap) (hfit : off + sLen * i.size + news.length ≤ cur.size) :
    (Builtin.append_ #[t, t] ty #[.slice (some ⟨g, off, none⟩) sLen sCap, .slice (some a) m c]).run P w =
      .ok (.slice (some ⟨g, off, none⟩) (sLen + m) sCap) (w.setRow g (cur.toList.take (off + sLen * i.size) ++ news ++ cur.toList.drop (off + sLen * i.size + news.length)).toArray) := by
  have hf := run_firstCells_some (P := P) w i.size m a m c news hl hnews
  have hst := run_storeCells_at P g (off + sLen * i.size) e news 0 cur w hg (by simpa using hfit) h1
  simp only [Nat.add_zero] at hst
  simp [Builtin.append_, run_underlying ht, sizeOf, typeInfo, hi, Builtin.lenOf, hroom, hf, Addr.add_lit, hst]
section
variable {α : Type} {K : Kd α} {base : Nat} {v : Value} {l k : List α} {W W' : World} {p : Option Addr} {n cap c : Nat}
/-- a slice that lies anywhere in a block of one's own -/
def KTail (K : Kd α) (base : Nat) (v : Value) (l : List α) (W : World) : Prop :=
  (v = .slice none 0 0 ∧ l = []) ∨ ∃ (g off cap : Nat) (cur : Array Value), v = .slice (some ⟨g, off, none⟩) l.length cap ∧ base ≤ g ∧ W.heap[g]? = some (.cells cur K.T (0, 0)) ∧ l.length ≤ cap ∧ cap ≤ maxLen ∧ off + cap * K.n ≤ cur.size ∧
    ∀ j u, (K.flat l)[j]? = some u → cur[off + j]? = some u
theorem KTail.nil (K : Kd α) (base : Nat) (W : World) : KTail K base (.slice none 0 0) [] W := .inl ⟨rfl, rfl⟩
theorem KOwns.tail (h : KOwns K base v l W) : KTail K base v l W := by
  rcases h with ⟨hx, ⟨rfl, h2⟩ | ⟨g, cap, cur, rfl, h2, h3, h4, h5, h6, h7⟩⟩
  · exact .inl ⟨rfl, List.length_eq_zero_iff.1 h2⟩
  · refine .inr ⟨g, 0, cap, cur, rfl, h2, h3, h4, h5, by omega, fun j u hu => ?_⟩
    rw [Nat.zero_add]
    rw [← h7] at hu
    have hlt := (List.getElem?_eq_some_iff.1 hu).1
    rw [List.getElem?_take_of_lt (by rw [List.length_take] at hlt; omega), Array.getElem?_toList] at hu
    exact hu
theorem KTail.form (h : KTail K base v l W) : ∃ p cap, v = .slice p l.length cap := by
  rcases h with ⟨rfl, rfl⟩ | ⟨g, off, cap, cur, rfl, _⟩
  · exact ⟨none, 0, rfl⟩
  · exact ⟨_, cap, rfl⟩
theorem KTail.capLe (h : KTail K base (.slice p l.length cap) l W) : l.length ≤ cap := by
  rcases h with ⟨e, rfl⟩ | ⟨g, off, cap', cur, e, _, _, h4, _⟩
  · simp
  · injection e with _ _ e3
    subst e3
    exact h4
theorem KTail.ge (h : KTail K base v l W) : ∀ g, v.ownBlock = some g → base ≤ g ∧ g < W.heap.size := by
  rcases h with ⟨rfl, _⟩ | ⟨g, off, cap, cur, rfl, h2, h3, _⟩
  · intro g hg; cases hg
  · intro g' hg
    injection hg with hg
    have e : g = g' := hg
    subst e
    exact ⟨h2, (Array.getElem?_eq_some_iff.1 h3).1⟩
theorem KTail.keep (h : KTail K base v l W) (hk : ∀ g, v.ownBlock = some g → W'.heap[g]? = W.heap[g]?) : KTail K base v l W' := by
  rcases h with h | ⟨g, off, cap, cur, rfl, h2, h3, h4⟩
  · exact .inl h
  · exact .inr ⟨g, off, cap, cur, rfl, h2, (hk g rfl).trans h3, h4⟩
theorem KTail.lies (h : KTail K base v l W) (ok : K.Ok) : KLies K v l W := by
  rcases h with h | ⟨g, off, cap, cur, rfl, h2, h3, h4, h5, h6, h7⟩
  · exact .inl h
  · refine .inr ⟨⟨g, off, none⟩, cap, rfl, h4, fun i a hi => ⟨rfl, fun j u hu => ?_⟩⟩
    have := h7 _ u (ok.flat_get l i a j u hi hu)
    show W.cell? ⟨g, off + i * K.n + j, none⟩ = some u
    rw [cell_of_row W g _ cur _ _ h3, show off + i * K.n + j = off + (i * K.n + j) by omega]
    exact this
/-- s[c:] -/
theorem KTail.from (h : KTail K base (.slice p l.length cap) l W) (ok : K.Ok) (hc : c ≤ l.length) : KTail K base (fromV K.n p l.length cap c) (l.drop c) W := by
  rcases h with ⟨e, rfl⟩ | ⟨g, off, cap', cur, e, h2, h3, h4, h5, h6, h7⟩
  · injection e with e1 e2 e3
    subst e1 e3
    have : c = 0 := by simpa using hc
    subst this
    exact .inl ⟨by simp [fromV], by simp⟩
  · injection e with e1 e2 e3
    subst e1 e3
    by_cases hcc : cap = c
    · have hl : l.drop c = [] := List.drop_of_length_le (by omega)
      rw [hl]
      refine .inr ⟨g, off, cap - c, cur, ?_, h2, h3, Nat.zero_le _, by omega, ?_, fun j u hu => by simp [Kd.flat] at hu⟩
      · unfold fromV
        rw [if_pos hcc]
        have : l.length - c = 0 := by omega
        rw [this]; rfl
      · rw [hcc, Nat.sub_self, Nat.zero_mul]; omega
    · refine .inr ⟨g, off + c * K.n, cap - c, cur, ?_, h2, h3, by rw [List.length_drop]; omega, by omega, ?_, fun j u hu => ?_⟩
      · unfold fromV
        rw [if_neg hcc, List.length_drop]
        show Value.slice (some ((⟨g, off, none⟩ : Addr).add (c * K.n))) _ _ = _
        rw [Addr.add_lit]
      · have : c * K.n + (cap - c) * K.n = cap * K.n := by rw [← Nat.add_mul]; congr 1; omega
        omega
      · obtain ⟨i, a, m, e1, e2, rfl⟩ := ok.flat_nth _ j u hu
        rw [List.getElem?_drop] at e1
        have := h7 _ u (ok.flat_get l (c + i) a m u e1 e2)
        rw [show off + c * K.n + (i * K.n + m) = off + ((c + i) * K.n + m) by rw [Nat.add_mul]; omega]
        exact this
/-- Any elements more at a slice of one's own, by what they weigh; where they lie then. -/
theorem kappendAt (K : Kd α) (ok : K.Ok) {ops : Array Oper} {rest : List Oper} {o : Oper} {a : Act} {w : World} {Q : Exit → Act → World → Prop} (hgd : o.guard = none) (s x : Operand)
    (ho : o.op = .call { callee := .builtin .append, args := #[s, x], argTypes := #[K.S, K.S] }) (base : Nat) (v : Value) (l k : List α) (hs : a.eval s = v) (hown : KOwns K base v l w)
    (u : Value) (hx : a.eval x = u) (hk : KLies K u k w) (hbase : base ≤ w.heap.size) (hlen : (l.length + k.length) * K.room ≤ 140737488355328)
    (h : ∀ v' w', KOwns K base v' (l ++ k) w' → w.grownBy w' v.ownBlock → (v'.ownBlock = v.ownBlock ∨ v'.ownBlock = some w.heap.size) → wpList Try.prog ops Q rest (a.put o.dst v') w') : wpList Try.prog ops Q (o :: rest) a w := by
  obtain ⟨i, z, hi, hz, hsz, hby, hc⟩ := ok.info
  have hnm : l.length + k.length ≤ 140737488355328 := Nat.le_trans (by have := Nat.mul_le_mul_left (l.length + k.length) ok.room1; omega) hlen
  rcases hk with ⟨rfl, rfl⟩ | ⟨ad, cap, rfl, hcap, hr⟩
  · refine wpList_append_own_none hgd s x K.S ho base K.T i K.n ok.under hi v l.length (K.flat l) hs hown hx (h v w ?_ ⟨rfl, rfl, rfl, Nat.le_refl _, fun _ _ _ => rfl⟩ (.inl rfl))
    rw [List.append_nil]
    exact hown
  · refine wpList_append_own_at w hgd s x K.S ho base K.T i z K.n K.room ok.under hi hz hsz hby hc ok.pos v l.length (K.flat l) hs hown ad k.length cap (K.flat k) hx (ok.flat_len k)
      (KLies.news (.inr ⟨ad, cap, rfl, hcap, hr⟩) ok) (ok.flat_one k) (by unfold maxLen; omega) hlen hbase fun v' w' h1 h2 _ h4 => h v' w' ?_ h2 h4
    unfold KOwns
    rw [List.length_append, K.flat_append]
    exact h1
/-- Any elements more, at least one, behind a slice that lies anywhere in a block of one's own. -/
theorem tappend (K : Kd α) (ok : K.Ok) {ops : Array Oper} {rest : List Oper} {o : Oper} {a : Act} {w : World} {Q : Exit → Act → World → Prop} (hgd : o.guard = none) (s x : Operand)
    (ho : o.op = .call { callee := .builtin .append, args := #[s, x], argTypes := #[K.S, K.S] }) (base : Nat) (v : Value) (l k : List α) (hs : a.eval s = v) (hown : KTail K base v l w)
    (u : Value) (hx : a.eval x = u) (hk : KLies K u k w) (hne : k ≠ []) (hbase : base ≤ w.heap.size) (hlen : (l.length + k.length) * K.room ≤ 140737488355328)
    (h : ∀ v' w', KTail K base v' (l ++ k) w' → w.grownBy w' v.ownBlock → (v'.ownBlock = v.ownBlock ∨ v'.ownBlock = some w.heap.size) → wpList Try.prog ops Q rest (a.put o.dst v') w') : wpList Try.prog ops Q (o :: rest) a w := by
  obtain ⟨i, z, hi, hz, hsz, hby, hzc⟩ := ok.info
  have hnm : l.length + k.length ≤ 140737488355328 := Nat.le_trans (by have := Nat.mul_le_mul_left (l.length + k.length) ok.room1; omega) hlen
  rcases hk with ⟨_, e⟩ | ⟨ad, cap, rfl, hcap, hr⟩
  · exact absurd e hne
  have hnews : ∀ j u, (K.flat k)[j]? = some u → w.cell? (ad.add j) = some u := KLies.news (.inr ⟨ad, cap, rfl, hcap, hr⟩) ok
  have hkl : (K.flat k).length = k.length * i.size := by rw [ok.flat_len, hsz]
  have hll : (K.flat l).length = l.length * i.size := by rw [ok.flat_len, hsz]
  rcases hown with ⟨rfl, rfl⟩ | ⟨g, off, cap0, cur, rfl, hb, hg, hle, hcm, hfit, hcs⟩
  · exact wpList_append_own_at w hgd s x K.S ho base K.T i z K.n K.room ok.under hi hz hsz hby hzc ok.pos (.slice none 0 0) 0 [] hs (World.ownsRow_nil _ _ _ _) ad k.length cap (K.flat k) hx (ok.flat_len k)
      hnews (ok.flat_one k) (by unfold maxLen; omega) (by simpa using hlen) hbase fun v' w' h1 h2 _ h4 => h v' w' (KOwns.tail (by unfold KOwns; simpa using h1)) h2 h4
  have fin : ∀ v' w', (Builtin.append_ #[K.S, K.S] o.type #[.slice (some ⟨g, off, none⟩) l.length cap0, .slice (some ad) k.length cap]).run Try.prog w = .ok v' w' → wpList Try.prog ops Q rest (a.put o.dst v') w' → wpList Try.prog ops Q (o :: rest) a w := fun v' w' hr hQ => by
    refine wpList_plain hgd fun K hK => ?_
    unfold Oper.wp execOp
    simp only [ho, resolve, invoke, builtin, Sem.run_bind, Sem.run_pure, Result.andThen_ok, List.map_toArray, List.map_cons, List.map_nil, hs, hx, hr]
    exact hK _ _ hQ
  by_cases hroom : l.length + k.length ≤ cap0
  · have hf := run_firstCells_some (P := Try.prog) w i.size k.length ad k.length cap (K.flat k) hkl hnews
    have hin : off + l.length * i.size + (K.flat k).length ≤ cur.size := by
      have := Nat.mul_le_mul_right K.n hroom
      rw [Nat.add_mul] at this
      rw [hkl, hsz]
      omega
    have hrun := append_room_off (P := Try.prog) w K.S o.type K.T i ok.under hi g off l.length cap0 cur hg ad k.length cap (K.flat k) hkl hnews (ok.flat_one k) hroom hin
    refine fin _ _ hrun (h _ _ (.inr ⟨g, off, cap0, _, by rw [List.length_append], hb, setRow_heap w g cur _ _ _ hg, by rw [List.length_append]; exact hroom, hcm, ?_, fun j u hu => ?_⟩)
      ⟨rfl, rfl, rfl, by simp, fun k' _ hk' => setRow_other w g k' _ (fun e => hk' (by simp [Value.ownBlock, e]))⟩ (.inl rfl))
    · simp only [List.size_toArray, List.length_append, List.length_take, List.length_drop, Array.length_toList]
      omega
    · have htl : (cur.toList.take (off + l.length * i.size)).length = off + l.length * i.size := by have hcl : cur.toList.length = cur.size := Array.length_toList; rw [List.length_take, hcl]; omega
      rw [K.flat_append] at hu
      rw [List.getElem?_toArray, List.append_assoc]
      by_cases hj : j < l.length * i.size
      · rw [List.getElem?_append_left (by rw [hll]; exact hj)] at hu
        rw [List.getElem?_append_left (by rw [htl]; omega), List.getElem?_take_of_lt (by omega), Array.getElem?_toList]
        exact hcs j u hu
      · rw [List.getElem?_append_right (by rw [hll]; omega), hll] at hu
        have hjk := (List.getElem?_eq_some_iff.1 hu).1
        rw [List.getElem?_append_right (by rw [htl]; omega), htl, show off + j - (off + l.length * i.size) = j - l.length * i.size by omega, List.getElem?_append_left hjk]
        exact hu
  · have holds : ∀ j u, (K.flat l)[j]? = some u → w.cell? ((⟨g, off, none⟩ : Addr).add j) = some u := fun j u hu => by
      rw [Addr.add_lit, cell_of_row w g _ cur _ _ hg]
      exact hcs j u hu
    have hrun := run_append_grow (P := Try.prog) w K.S o.type K.T i z ok.under hi hz ⟨g, off, none⟩ l.length cap0 (K.flat l) hll holds ad k.length cap (K.flat k) hkl hnews (by omega) (by omega) (growslice_fits (by omega) (by rw [hby]; exact hlen))
    have hge := grownCap_ge w (l.length + k.length) cap0 K.T
    have hgm := grownCap_le_maxLen w (l.length + k.length) cap0 K.T (by unfold maxLen; omega)
    refine fin _ _ hrun (h _ _ (.inr ⟨w.heap.size, 0, _, _, by rw [List.length_append], hbase, heap_alloc_new w.drew _, by rw [List.length_append]; exact hge, hgm, ?_, fun j u hu => ?_⟩) ⟨rfl, rfl, rfl, by simp, fun k' hk' _ => heap_alloc_old w.drew _ hk'⟩ (.inr rfl))
    · simp only [Array.size_append, List.size_toArray, size_zeroCells, hzc, hll, hkl, hsz, ← Nat.add_mul]
      rw [Nat.zero_add]
      exact Nat.mul_le_mul_right _ (by omega)
    · rw [K.flat_append] at hu
      have hj := (List.getElem?_eq_some_iff.1 hu).1
      rw [Nat.zero_add, Array.getElem?_append_left (by simpa using hj), List.append_toArray, List.getElem?_toArray]
      exact hu
end
end Go.Proofs.Ytgmfmmabegcocaa
