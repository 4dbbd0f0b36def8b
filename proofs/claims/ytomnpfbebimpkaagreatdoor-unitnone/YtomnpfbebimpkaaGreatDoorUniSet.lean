/-
  change: a change of a transaction, taken or refused.
-/
import Derived.Test.YtomnpfbebimpkaaGreatDoorUniJud
namespace Go.Proofs.YtomnpfbebimpkaaGreatDoor
set_option maxRecDepth 20000
open Go.RowKit

theorem mca_acts (m : Mm) (q : Option Addr) (n c : Nat) : (mca m).setIfInBounds 26 (.slice q n c) = mca ⟨m.u, q, n, c⟩ := by
  apply Array.ext'
  simp only [mca, mcl, Array.toList_setIfInBounds]
  rw [show (26 : Nat) = 25 + 1 from rfl, List.set_cons_succ, List.set_append_right _ _ (by simp [cl])]
  simp [cl, mtl]
theorem mutsT_split {ts : List Tm} {i : Nat} {t : Tm} (h : ts[i]? = some t) : mutsT ts = mutsT (ts.take i) ++ (t.mut ++ mutsT (ts.drop (i + 1))) := by
  have hl := (List.getElem?_eq_some_iff.1 h).1
  have e : ts = ts.take i ++ t :: ts.drop (i + 1) := by
    have := List.drop_eq_getElem_cons hl
    rw [(List.getElem?_eq_some_iff.1 h).2] at this
    rw [← this, List.take_append_drop]
  conv => lhs; rw [e]
  rw [mutsT_append]
  rfl
theorem mutsT_setSplit {ts : List Tm} {i : Nat} {t t' : Tm} (h : ts[i]? = some t) : mutsT (ts.set i t') = mutsT (ts.take i) ++ (t'.mut ++ mutsT (ts.drop (i + 1))) := by
  have hl := (List.getElem?_eq_some_iff.1 h).1
  rw [List.set_eq_take_append_cons_drop, if_pos hl, mutsT_append]
  rfl
/-- one transaction written -/
theorem UniA.setTx {B : Nat} {x : Um} {W W' : World} {i : Nat} {t t' : Tm} (h : UniA B x W) (hi : x.ts[i]? = some t) (hb : t'.b = t.b) (ht : TxA B t' W') (k : Fr t.mut W W') (hv : ∀ g, t'.v.ownBlock = some g → t.v.ownBlock = some g ∨ W.heap.size ≤ g) :
    UniA B ⟨x.p, x.room, x.vb, x.L, x.vo, x.ts.set i t', x.fail⟩ W' ∧ UFr x ⟨x.p, x.room, x.vb, x.L, x.vo, x.ts.set i t', x.fail⟩ W W' := by
  have htm := List.mem_of_getElem? hi
  have hM : Muts t.mut W := fun g hg => ((h.txs t htm).muts g hg).2
  have hin : ∀ g ∈ t.mut, g ∈ mutsT x.ts := fun g hg => mem_mutsT.2 ⟨t, htm, hg⟩
  have hsp := mutsT_split hi
  have hnod := h.nod
  rw [hsp] at hnod
  have hnew : ∀ g ∈ t'.mut, g ∈ t.mut ∨ W.heap.size ≤ g := fun g hg => by
    rcases List.mem_cons.1 hg with e | hg
    · exact .inl (by rw [e, hb]; simp [Tm.mut])
    · rcases hv g (mem_ownL.1 hg) with e | e
      · exact .inl (by simp [Tm.mut, mem_ownL, e])
      · exact .inr e
  have hlt : ∀ g ∈ mutsT x.ts, g < W.heap.size := fun g hg => h.muts.lt g (by simp only [Um.muts, List.mem_cons, List.mem_append]; exact .inr (.inr hg))
  have hd1 : ∀ g ∈ mutsT (x.ts.take i), g ∈ mutsT x.ts := fun g hg => by rw [hsp]; exact List.mem_append_left _ hg
  have hd2 : ∀ g ∈ mutsT (x.ts.drop (i + 1)), g ∈ mutsT x.ts := fun g hg => by rw [hsp]; exact List.mem_append_right _ (List.mem_append_right _ hg)
  refine ⟨⟨k.blk h.box fun hm => h.notTx (hin _ hm), h.ge, h.base.fr k hM, ?_, fun y hy => ?_, ?_⟩, ⟨k.mono fun g hg => .inl ?_, fun g hg => ?_⟩⟩
  · have e : ((x.ts.set i t').map (·.b)) = x.ts.map (·.b) := by
      rw [List.map_set, hb]
      apply List.ext_getElem?
      intro j
      by_cases ej : i = j
      · subst ej
        have hx' : (x.ts.map (·.b))[i]? = some t.b := by rw [List.getElem?_map, hi]; rfl
        rw [List.getElem?_set_self (List.getElem?_eq_some_iff.1 hx').1, hx']
      · rw [List.getElem?_set_ne ej]
    show KOwns KX B x.vo ((x.ts.set i t').map (·.b)) W'
    rw [e]
    exact k.owns h.opn fun g hg hm => h.voTx hg (hin g hm)
  · obtain ⟨j, hj⟩ := List.mem_iff_getElem?.1 hy
    by_cases ej : i = j
    · subst ej
      have hl := (List.getElem?_eq_some_iff.1 hi).1
      rw [List.getElem?_set_self hl] at hj
      injection hj with hj
      subst hj
      exact ht
    · rw [List.getElem?_set_ne ej] at hj
      refine (h.txs y (List.mem_of_getElem? hj)).fr k hM fun g hg hm => ?_
      have hmem : g ∈ mutsT (x.ts.take i) ∨ g ∈ mutsT (x.ts.drop (i + 1)) := by
        rcases Nat.lt_or_gt_of_ne ej with q | q
        · refine .inr (mem_mutsT.2 ⟨y, List.mem_of_getElem? (i := j - (i + 1)) ?_, hg⟩)
          rw [List.getElem?_drop, show i + 1 + (j - (i + 1)) = j by omega]
          exact hj
        · refine .inl (mem_mutsT.2 ⟨y, List.mem_of_getElem? (i := j) ?_, hg⟩)
          rw [List.getElem?_take_of_lt q]
          exact hj
      rw [List.nodup_append] at hnod
      rcases hmem with q | q
      · exact hnod.2.2 g q g (List.mem_append_left _ hm) rfl
      · have h2 := hnod.2.1
        rw [List.nodup_append] at h2
        exact h2.2.2 g hm g q rfl
  · show (mutsT (x.ts.set i t')).Nodup
    rw [mutsT_setSplit hi]
    rw [List.nodup_append] at hnod ⊢
    obtain ⟨n1, n2, n3⟩ := hnod
    rw [List.nodup_append] at n2 ⊢
    obtain ⟨n4, n5, n6⟩ := n2
    refine ⟨n1, ⟨?_, n5, fun a ha b hb2 e => ?_⟩, fun a ha b hb2 e => ?_⟩
    · unfold Tm.mut
      rw [List.nodup_cons]
      refine ⟨fun hm => Typ.ne (ht.own.typ (mem_ownL.1 hm)) ht.box.typ (by decide) rfl, ?_⟩
      unfold ownL
      cases t'.v.ownBlock <;> simp
    · subst e
      rcases hnew a ha with q | q
      · exact n6 a q a hb2 rfl
      · have := hlt a (hd2 a hb2); omega
    · subst e
      rcases List.mem_append.1 hb2 with hb2 | hb2
      · rcases hnew a hb2 with q | q
        · exact n3 a ha a (List.mem_append_left _ q) rfl
        · have := hlt a (hd1 a ha); omega
      · exact n3 a ha a (List.mem_append_right _ hb2) rfl
  · simp only [Um.muts, List.mem_cons, List.mem_append]
    exact .inr (.inr (hin g hg))
  · simp only [Um.muts, List.mem_cons, List.mem_append] at hg ⊢
    rcases hg with rfl | hg | hg
    · exact .inl (.inl rfl)
    · exact .inl (.inr (.inl hg))
    · rw [mutsT_setSplit hi] at hg
      rcases List.mem_append.1 hg with q | q
      · exact .inl (.inr (.inr (hd1 g q)))
      · rcases List.mem_append.1 q with q | q
        · rcases hnew g q with r | r
          · exact .inl (.inr (.inr (hin g r)))
          · exact .inr r
        · exact .inl (.inr (.inr (hd2 g q)))
theorem txO_at {x : Um} {i : Nat} {t : Tm} (h : x.ts[i]? = some t) : txO x.un.opn i = t.tx := by
  unfold txO
  rw [show x.un.opn[i]? = some t.tx by show (x.ts.map (·.tx))[i]? = _; rw [List.getElem?_map, h]; rfl]
  rfl
/-- what change gives -/
def ChgRet (x : Um) (B : Nat) (id : Int) (m : Mu) (w : World) (e : Ending) (w' : World) : Prop :=
  ∃ x' : Um, e = .returned (.int .i64 (chgE x.un id m)) ∧ x'.un = chgS x.un id m ∧ UniA B x' w' ∧ x'.p = x.p ∧ UFr x x' w w'
/-- an operation that only reads, as an act -/
theorem rdWp {o : Oper} {a : Act} {w : World} {Kt : Act → World → Prop} {Q : Exit → Act → World → Prop} (v : Value) (hv : (execOp a.eval o).run Tryz.prog w = .ok (.value v) w) (h : Kt (a.put o.dst v) w) : o.wp Tryz.prog a w Kt Q := by
  unfold Oper.wp
  rw [hv]
  exact h
/-- a store of one cell in the middle of a row, as an act -/
theorem stWp {o : Oper} {a : Act} {w : World} {Kt : Act → World → Prop} {Q : Exit → Act → World → Prop} (ty : TypeId) (x y : Operand) (ho : o.op = .store ty x y)
    (b k : Nat) (v : Value) (hx : a.eval x = .pointer (some ⟨b, k, none⟩)) (hy : a.eval y = v) (h1 : v.oneCell' = true) (ht : w.there b k 1) (hi : (Tryz.prog.info? ty).map (·.size) = some 1)
    (h : Kt (a.put o.dst undef) (w.setCell ⟨b, k, none⟩ v)) : o.wp Tryz.prog a w Kt Q := by
  have hc : v.cells = #[v] := by cases v <;> first | rfl | cases h1
  have hq := run_storeCells_cells (P := Tryz.prog) b k [v] 0 w (fun j hj => by simpa using (ht j (by simpa using hj)).1) (fun j hj => by simpa using (ht j (by simpa using hj)).2) (fun u hu => by simp at hu; subst hu; exact h1)
  have hr : (storeVar ty ⟨b, k, none⟩ v).run Tryz.prog w = .ok () (w.setCell ⟨b, k, none⟩ v) := by
    cases hq' : Tryz.prog.info? ty with
    | none => simp [hq'] at hi
    | some i =>
      have hs : i.size = 1 := by simpa [hq'] using hi
      simp only [Nat.add_zero] at hq
      simp [storeVar, sizeOf, typeInfo, hq', hc, hs]
      exact hq
  unfold Oper.wp execOp
  simp only [ho, hx, hy, Instr.storeAt, Instr.sureAddr, Sem.run_bind, Sem.run_pure, Result.andThen_ok, hr]
  exact h
/-- any elements more at a slice of one's own, as an act; where they lie then -/
theorem kappendWWp {α : Type} (K : Kd α) (ok : K.Ok) {o : Oper} {a : Act} {w : World} {Kt : Act → World → Prop} {Q : Exit → Act → World → Prop} (s x : Operand)
    (ho : o.op = .call { callee := .builtin .append, args := #[s, x], argTypes := #[K.S, K.S] }) (base : Nat) (v : Value) (l k : List α) (hs : a.eval s = v) (hown : KOwns K base v l w)
    (u : Value) (hx : a.eval x = u) (hk : KLies K u k w) (hbase : base ≤ w.heap.size) (hlen : l.length + k.length ≤ 1000000)
    (h : ∀ v' w', KOwns K base v' (l ++ k) w' → w.grownBy w' v.ownBlock → (v'.ownBlock = v.ownBlock ∨ v'.ownBlock = some w.heap.size) → Kt (a.put o.dst v') w') : o.wp Tryz.prog a w Kt Q := by
  obtain ⟨i, z, hi, hz, hsz, hby, hc⟩ := ok.info
  have hl := ok.light hlen
  rcases hk with ⟨rfl, rfl⟩ | ⟨ad, cap, rfl, hcap, hr⟩
  · have hrun := run_append_owned_none (P := Tryz.prog) (w := w) base K.S o.type K.T i K.n ok.under hi v l.length (K.flat l) hown
    have hq := h v w (by rw [List.append_nil]; exact hown) ⟨rfl, rfl, rfl, Nat.le_refl _, fun _ _ _ => rfl⟩ (.inl rfl)
    unfold Oper.wp
    simp [execOp, ho, resolve, invoke, builtin, hs, hx, hrun, Result.andThen]
    exact hq
  · obtain ⟨v', w', hr', h2, h3, h4, h5⟩ := run_append_own_at (P := Tryz.prog) w base K.S o.type K.T i z K.n K.room ok.under hi hz hsz hby hc ok.pos v l.length (K.flat l) hown ad k.length cap (K.flat k) (ok.flat_len k)
      (KLies.news (.inr ⟨ad, cap, rfl, hcap, hr⟩) ok) (ok.flat_one k) (by unfold maxLen; omega) hl hbase
    unfold Oper.wp execOp
    simp only [ho, resolve, invoke, builtin, Sem.run_bind, Sem.run_pure, Result.andThen_ok, List.map_toArray, List.map_cons, List.map_nil, hs, hx, hr']
    refine h v' w' ?_ h3 h5
    unfold KOwns
    rw [List.length_append, K.flat_append]
    exact h2
theorem infoSA : (Tryz.prog.info? 38).map (·.size) = some 1 := by kernel_rfl
theorem infoSM : (Tryz.prog.info? 50).map (·.size) = some 1 := by kernel_rfl
theorem Tab.belowAt {B : Nat} {w W : World} (h : Tab w) (hz : 0 < B) (hb : Below B w W) : Tab W :=
  ⟨fun k hk => ⟨(hb.cell (p := ⟨0, k * 2, none⟩) hz).trans (h.1 k hk).1, (hb.cell (p := ⟨0, k * 2 + 1, none⟩) hz).trans (h.1 k hk).2⟩, by
    obtain ⟨t, fr, hf⟩ := h.2
    exact ⟨t, fr, (hb.block _ hz).trans hf⟩⟩
theorem Env.at_ {B : Nat} {w W : World} (ht : Tab w) (hz : 0 < B) (hb : Below B w W) (hB : B ≤ w.heap.size) : Tab W ∧ 0 < W.heap.size := ⟨ht.belowAt hz hb, by have := hb.size; omega⟩
theorem UFr.env {B : Nat} {x x' : Um} {w W : World} (h : UFr x x' w W) (hU : UniA B x w) (ht : Tab w) (hz : 0 < B) : Tab W ∧ 0 < W.heap.size := by
  have hB : B ≤ w.heap.size := by have := hU.lt; have := hU.ge; omega
  exact Env.at_ ht hz (h.old hU hB (Below.refl _ _)) hB
theorem FitM.opened {k : Nat} {x x' : Um} {id : Int} (h : FitM k x) (hn : k + 1 ≤ 9000) (e : x'.un = { x.un with opn := opnO x.un.opn id }) : FitM (k + 1) x' := ⟨by rw [e]; exact h.fit.opened id, hn⟩
/-- a change's actions stay where they are: they were there ahead of all that is written, or lie in a block of actions -/
def StM (B : Nat) (m : Mm) (W : World) : Prop := (∃ w0 : World, w0.heap.size ≤ B ∧ Below w0.heap.size w0 W ∧ InM m w0) ∨ OwnM 0 m W
section
variable {B : Nat} {m : Mm} {M : List Nat} {W W' : World}
theorem StM.inM (h : StM B m W) : InM m W := by
  rcases h with ⟨w0, _, h2, h3⟩ | h
  · exact h3.below h2
  · exact h.inM
theorem StM.fr (h : StM B m W) (k : Fr M W W') (hM : Muts M W) (hf : ∀ g ∈ M, B ≤ g) : StM B m W' := by
  rcases h with ⟨w0, h1, h2, h3⟩ | h
  · exact .inl ⟨w0, h1, h2.trans (k.below (fun g hg => Nat.le_trans h1 (hf g hg)) h2.size (Below.refl _ _)), h3⟩
  · exact .inr (h.fr k hM)
theorem StM.below (h : StM B m W) (hb : Below W.heap.size W W') : StM B m W' := h.fr (M := []) (Fr.of hb) (fun g hg => by cases hg) (fun g hg => by cases hg)
theorem StM.ufr {x x' : Um} (h : StM B m W) (k : UFr x x' W W') (hU : UniA B x W) : StM B m W' := h.fr k.fr hU.muts hU.from
end
theorem Blk.ufr {b : Nat} {cs : Array Value} {T : TypeId} {x x' : Um} {W W' : World} (h : Blk b cs T W) (k : UFr x x' W W') (hn : b ∉ x.muts) : Blk b cs T W' ∧ b ∉ x'.muts :=
  ⟨k.fr.blk h hn, fun hm => (k.new b hm).elim hn fun q => by have := h.lt; omega⟩
theorem chgE_of {x x' : Um} {id : Int} {t : Tm} {m : Mu} (e : x'.un = { x.un with opn := opnO x.un.opn id }) (ht : x'.ts[plO x.un.opn id]? = some t) (hr : t.ref = false) :
    chgE x.un id m = if x'.fail then 16 else judE x'.room x'.un.base x'.un.opn m := by
  have h1 := txO_at ht
  have e1 : x'.un.opn = opnO x.un.opn id := by rw [e]
  have e2 : x'.un.base = x.un.base := by rw [e]
  have e3 : x'.room = x.room := congrArg Un.room e
  have e4 : x'.fail = x.fail := congrArg Un.fail e
  rw [e1] at h1
  unfold chgE
  rw [h1, show t.tx.ref = false from hr, if_neg (by decide), e1, e2, e3, e4]
  rfl
theorem chgE_ref {x x' : Um} {id : Int} {t : Tm} {m : Mu} (e : x'.un = { x.un with opn := opnO x.un.opn id }) (ht : x'.ts[plO x.un.opn id]? = some t) (hr : t.ref = true) :
    chgE x.un id m = 0 ∧ chgS x.un id m = x'.un := by
  have h1 := txO_at ht
  have e1 : x'.un.opn = opnO x.un.opn id := by rw [e]
  rw [e1] at h1
  have h2 : (txO (opnO x.un.opn id) (plO x.un.opn id)).ref = true := by rw [h1]; exact hr
  unfold chgE chgS
  rw [h2, if_pos rfl, if_pos rfl, e]
  exact ⟨rfl, rfl⟩
theorem chgS_of {x x' : Um} {id : Int} {t : Tm} {m : Mu} (e : x'.un = { x.un with opn := opnO x.un.opn id }) (ht : x'.ts[plO x.un.opn id]? = some t) (hr : t.ref = false) (t' : Tm)
    (h' : t'.tx = if chgE x.un id m = 0 then t.tx.push m else t.tx.no) : (⟨x'.p, x'.room, x'.vb, x'.L, x'.vo, x'.ts.set (plO x.un.opn id) t', false⟩ : Um).un = chgS x.un id m := by
  have h1 := txO_at ht
  have e1 : x'.ts.map (·.tx) = opnO x.un.opn id := congrArg Un.opn e
  have e2 : x'.L.map (·.u) = x.un.base := congrArg Un.base e
  have e3 : x'.room = x.room := congrArg Un.room e
  have h2 : txO (opnO x.un.opn id) (plO x.un.opn id) = t.tx := by rw [← e1]; exact h1
  unfold chgS
  rw [h2, show t.tx.ref = false from hr, if_neg (by decide), ← h', ← e1]
  show (⟨x'.room, x'.L.map (·.u), (x'.ts.set _ t').map (·.tx), false⟩ : Un) = ⟨x.room, x.un.base, _, false⟩
  rw [List.map_set, e2, e3]
set_option maxHeartbeats 1000000 in
set_option maxRecDepth 100000 in
theorem un_change (x : Um) (B k : Nat) (id : Int) (hF : FitM k x) (hk : k + 1 ≤ 9000) (m : Mm) (hw : WfM m.u) (w : World) (h : UniA B x w) (hi : StM B m w) (ht : Tab w) (hz : 0 < B) :
    Calls Tryz.prog 41 #[.pointer (some ⟨x.p, 0, none⟩), .int .i64 id, .agg (mca m)] w (ChgRet x B id m.u w) := by
  have HB1 := Lib.hid (below1 w (.cells (mca m) 40))
  have HU1 := Lib.hid (h.below HB1.out)
  have HI1 := Lib.hid (hi.below HB1.out)
  have HT1 := Lib.hid (Env.at_ ht hz (HB1.out.mono (by have := h.lt; have := h.ge; omega)) (by have := h.lt; have := h.ge; omega))
  have R1 := Lib.hid (Blk.new w (mca m) 40)
  have HN1 := Lib.hid (show w.heap.size ∉ x.muts from fun hm => by have := h.muts.lt _ hm; omega)
  have HF := Lib.hid hF
  have HK := Lib.hid hk
  have HWM := Lib.hid hw
  have HTR := Lib.hid (un_trans x B id (by have := hF.len; omega) _ HU1.out)
  clear h hi ht hF hk hw
  go_enter Tryz.func41, Tryz.ntmps41
  obtain ⟨b0, hb0⟩ : ∃ b0, b0 = w.heap.size := ⟨_, rfl⟩
  rw [← hb0] at R1 HN1
  go_upto_region 1 with fail
  rw [← hb0]
  have HB0N := Lib.hid (Nat.le_of_eq hb0.symm)
  clear hb0
  generalize hW1 : w.alloc (.cells (mca m) 40) = w1 at *
  clear hW1
  go_upto_region 2 with (go_at_call 72; refine HTR.out.mono ?_; rintro e w2 ⟨x2, t, rfl, htx, hun, hU2, hp2, hf2⟩)
  obtain ⟨R2', hn2⟩ := R1.out.ufr hf2 HN1.out
  have R2 := Lib.hid R2'
  have HN2 := Lib.hid hn2
  have HU2 := Lib.hid hU2
  have HTX := Lib.hid htx
  have HUN := Lib.hid hun
  have HP2 := Lib.hid hp2
  have HF2 := Lib.hid hf2
  have HI2 := Lib.hid (HI1.out.ufr hf2 HU1.out)
  have HT2 := Lib.hid (hf2.env HU1.out HT1.out.1 hz)
  have HUF2 := Lib.hid (show UFr x x2 w w2 from (UFr.of x HB1.out).trans hf2)
  have HTA := Lib.hid (hU2.txs t (List.mem_of_getElem? htx))
  cases hr : t.ref
  · have HR := Lib.hid hr
    have HCE := Lib.hid (chgE_of (m := m.u) hun htx hr)
    have cr : w2.cell? ⟨t.b, 2, none⟩ = some (.bool false) := by rw [← hr]; exact HTA.out.ref_
    have HFA := Lib.hid (un_fault x2 B (k + 1) (HF.out.opened HK.out hun) m HWM.out w2 hU2 HI2.out.inM HT2.out.1 HT2.out.2)
    clear htx hun hU2 hp2 hf2 hn2 R2' hr HTR HU1 HI1 HT1 R1 HN1
    obtain ⟨E, hE⟩ : ∃ E, E = chgE x.un id m.u := ⟨_, rfl⟩
    have HEE := Lib.hid hE
    unfold JudRet at HFA
    rw [← HCE.out, ← hE, HP2.out] at HFA
    rw [← hE] at HCE
    clear hE
    go_upto_region 5 with (first
      | (refine wpList_load_row rfl 40 _ rfl b0 rfl 40 (mca m) (0, 0) _ R2.out Tryz.underlying40 rfl infoMod ?_)
      | (go_at_call 73; refine HFA.out.mono ?_; rintro e w3 ⟨rfl, hU3, hf3⟩))
    obtain ⟨R3', hn3⟩ := R2.out.ufr hf3 HN2.out
    have R3 := Lib.hid R3'
    have HN3 := Lib.hid hn3
    have HU3 := Lib.hid hU3
    have HI3 := Lib.hid (HI2.out.ufr hf3 HU2.out)
    have HUF3 := Lib.hid (HUF2.out.trans hf3)
    have HTA3 := Lib.hid (hU3.txs t (List.mem_of_getElem? HTX.out))
    have HNB0 := HN3
    have HBW3 := Lib.hid (show B ≤ w3.heap.size by have := hU3.lt; have := hU3.ge; omega)
    clear hU3 hf3 hn3 R3' cr HFA HU2 HI2 HT2 HUF2 HTA R2 HN2 HF2
    by_cases h0 : E = 0
    · have he : (E != 0) = false := by rw [h0]; rfl
      have HE0 := Lib.hid h0
      have k26 : w3.cell? ⟨b0, 26, none⟩ = some (.slice m.q m.n m.c) := R3.out.cellsM.2.2.2.1
      have HCL := Lib.hid (aclone_any (.slice m.q m.n m.c) m.u.acts HWM.out.room w3 HI3.out.inM)
      clear h0
      go_upto_region 9 with (go_at_call 74; refine HCL.out.mono ?_; rintro e w4 ⟨v4, rfl, ho4, hb4⟩; refine Hid.out ?_)
      obtain ⟨q4, c4, e4⟩ := ho4.form
      subst e4
      have R4 := Lib.hid (R3.out.below hb4)
      have HU4 := Lib.hid (HU3.out.below hb4)
      have HA4 := Lib.hid (ho4.mono HBW3.out)
      have HB4 := Lib.hid hb4
      have HM4 := Lib.hid (show Muts [b0] w4 from fun g hg => by
        simp only [List.mem_cons, List.not_mem_nil, or_false] at hg
        subst hg
        exact ⟨_, by decide, R4.out.typ⟩)
      have HTH4 := Lib.hid (show w4.there b0 26 1 from R4.out.there (by rw [mca_size]; decide))
      clear ho4 hb4 HCL k26 R3 HI3
      refine Lib.hid ?_
      go_upto_region 9 with (refine storeCell rfl 38 _ _ rfl b0 26 (.slice q4 m.u.acts.length c4) rfl rfl rfl HTH4.out infoSA ?_; refine Hid.out ?_)
      have HF5 := Lib.hid (Fr.cell w4 ⟨b0, 26, none⟩ (.slice q4 m.u.acts.length c4) (M := [b0]) (by simp))
      have R5 := Lib.hid (show Blk b0 (mca ⟨m.u, q4, m.u.acts.length, c4⟩) 40 (w4.setCell ⟨b0, 26, none⟩ (.slice q4 m.u.acts.length c4)) by
        have h := R4.out.one (k := 26) (.slice q4 m.u.acts.length c4)
        rw [mca_acts] at h
        exact h)
      have HU5 := Lib.hid (HU4.out.fr HF5.out HM4.out fun g hg hm => by
        simp only [List.mem_cons, List.not_mem_nil, or_false] at hm
        subst hm
        exact HN3.out hg)
      have HA5 := Lib.hid (HF5.out.ownsT HM4.out HA4.out notA)
      have HUF5 := Lib.hid (show UFr x ⟨x.p, x2.room, x2.vb, x2.L, x2.vo, x2.ts, false⟩ w (w4.setCell ⟨b0, 26, none⟩ (.slice q4 m.u.acts.length c4)) from
        ⟨(HUF3.out.fr.tr (Fr.of HB4.out |>.mono (M := []) fun g hg => by cases hg)).trans HF5.out fun g hg => by
          simp only [List.mem_cons, List.not_mem_nil, or_false] at hg
          subst hg
          exact .inr HB0N.out, HUF3.out.new⟩)
      clear HTH4 HM4 HF5 HU4 HA4 R4 HUF3 HU3 HB4 HN3 HTA3
      generalize w4.setCell ⟨b0, 26, none⟩ (.slice q4 m.u.acts.length c4) = w5 at *
      obtain ⟨m', hm'⟩ : ∃ m' : Mm, m' = ⟨m.u, q4, m.u.acts.length, c4⟩ := ⟨_, rfl⟩
      have HMU := Lib.hid (show m'.u = m.u by rw [hm'])
      rw [← hm'] at R5
      have HAM := Lib.hid (show OwnM B m' w5 by rw [hm']; exact HA5.out)
      clear HA5 hm'
      refine Lib.hid ?_
      go_upto_region 9 with fail
      refine wp_region_held_drew (S := fun W' => Blk b0 (mca m') 40 W') (by kernel_rfl) (show Blk b0 (mca m') 40 w5.drew from R5.out.drew) (fun hS => ?_)
      have HBD := Lib.hid (show Below w5.heap.size w5 w5.drew from (Below.refl _ _).drew)
      have HUW := Lib.hid (HU5.out.below HBD.out)
      have HAMW := Lib.hid (HAM.out.below HBD.out)
      have HUFW := Lib.hid (HUF5.out.trans (UFr.of _ HBD.out))
      obtain ⟨pv, cv, hvv⟩ := (HUW.out.txs t (List.mem_of_getElem? HTX.out)).own.form
      have HVV := Lib.hid hvv
      have HLM := Lib.hid (show t.ms.length + [m'].length ≤ 1000000 by
        have h1 := (HF.out.opened HK.out HUN.out).len
        have h2 := chgT_len x2.ts (plO x.un.opn id + 1)
        rw [chgT_take _ _ _ HTX.out, List.length_append] at h2
        rw [List.length_singleton]
        omega)
      clear HBD HU5 R5 HAM HUF5 hvv
      generalize w5.drew = W at *
      refine seqRead 0 (v := _) rfl (by kernel_rfl) (by kernel_rfl) (by kernel_rfl) (fun _ _ _ h => h) rfl (fun w hSw => by go_simp <;> with_reducible rfl) hS ?_
      try simp only [Act.put, List.setIfInBounds_toArray, List.set_cons_zero, List.set_cons_succ]
      refine seqRead 1 (v := _) rfl (by kernel_rfl) (by kernel_rfl) (by kernel_rfl) (fun _ _ _ h => h) rfl (fun w hSw => by go_simp <;> with_reducible rfl) hS ?_
      try simp only [Act.put, List.setIfInBounds_toArray, List.set_cons_zero, List.set_cons_succ]
      refine seqRead 2 (v := _) rfl (by kernel_rfl) (by kernel_rfl) (by kernel_rfl) (fun _ _ _ h => h) rfl (fun w hSw => by go_simp <;> with_reducible rfl) hS ?_
      try simp only [Act.put, List.setIfInBounds_toArray, List.set_cons_zero, List.set_cons_succ]
      refine seqRead 3 (v := _) rfl (by kernel_rfl) (by kernel_rfl) (by kernel_rfl) (fun _ _ _ h => h) rfl (fun w hSw => by go_simp <;> with_reducible rfl) hS ?_
      try simp only [Act.put, List.setIfInBounds_toArray, List.set_cons_zero, List.set_cons_succ]
      refine seqRead 5 (v := _) rfl (by kernel_rfl) (by kernel_rfl) (by kernel_rfl) (fun _ _ _ h => h) rfl (fun w hSw => (show (execOp _ _).run _ w = .ok (.value (.agg (mca m'))) w from execRow0 rfl b0 rfl hSw Tryz.underlying40 rfl infoMod)) hS ?_
      try simp only [Act.put, List.setIfInBounds_toArray, List.set_cons_zero, List.set_cons_succ]
      refine seqActs2 4 6 rfl rfl (by kernel_rfl) rfl (fun K hK => ?_) rfl (fun K hK => ?_)
      · have k1 : W.cell? ⟨t.b, 1, none⟩ = some (.slice pv t.ms.length cv) := by rw [← HVV.out]; exact (HUW.out.txs t (List.mem_of_getElem? HTX.out)).v_
        refine rdWp (.slice pv t.ms.length cv) (by go_simp <;> with_reducible rfl) ?_
        refine hK.out _ _ hS (fun hS => ?_)
        clear hK K k1
        try simp only [Act.put, List.setIfInBounds_toArray, List.set_cons_zero, List.set_cons_succ]
        refine seqCall 6 rfl (by kernel_rfl) rfl (fun K hK => ?_)
        refine kbuildOneWp KM okM #[Value.int IntKind.i64 0, Value.int IntKind.u64 0, Value.int IntKind.u64 0, Value.int IntKind.u64 0, Value.int IntKind.u64 0, Value.int IntKind.u64 0, Value.int IntKind.u64 0, Value.int IntKind.u64 0, Value.int IntKind.u64 0, Value.int IntKind.u64 0, Value.int IntKind.u64 0, Value.int IntKind.u64 0, Value.int IntKind.u64 0, Value.int IntKind.u64 0, Value.int IntKind.u64 0, Value.int IntKind.u64 0, Value.int IntKind.u64 0, Value.int IntKind.u64 0, Value.int IntKind.u64 0, Value.int IntKind.u64 0, Value.int IntKind.u64 0, Value.int IntKind.u64 0, Value.int IntKind.u64 0, Value.int IntKind.u64 0, Value.int IntKind.u64 0, Value.int IntKind.i64 0, Value.slice none 0 0, Value.int IntKind.i64 0, Value.int IntKind.i64 0, Value.int IntKind.i64 0, Value.bool false] zeroMd (.tmp 34) rfl (mca m') rfl (by decide) (fillMd m') ?_
        have HUWb := Lib.hid (HUW.out.below (below1 W (.cells (mca m') KM.T)))
        have RBWb := Lib.hid (Blk.new W (mca m') KM.T)
        have HAMWb := Lib.hid (HAMW.out.below (below1 W (.cells (mca m') KM.T)))
        have HUFWb := Lib.hid (HUFW.out.trans (UFr.of _ (below1 W (.cells (mca m') KM.T))))
        refine hK.out _ _ (hS.below (below1 W (.cells (mca m') KM.T))) (fun hS => ?_)
        clear hK K
        generalize hWb : W.alloc (.cells (mca m') KM.T) = Wb at *
        clear hWb
        try simp only [Act.put, List.setIfInBounds_toArray, List.set_cons_zero, List.set_cons_succ]
        refine seqCall 7 rfl (by kernel_rfl) rfl (fun K hK => ?_)
        have HTAb := Lib.hid (HUWb.out.txs t (List.mem_of_getElem? HTX.out))
        have HLB := Lib.hid (show B ≤ Wb.heap.size by have := HUWb.out.lt; have := HUWb.out.ge; omega)
        refine kappendWWp KM okM (.tmp 33) (.tmp 35) rfl B (.slice pv t.ms.length cv) t.ms [m'] rfl (by rw [← HVV.out]; exact HTAb.out.own) _ rfl (oneM RBWb.out) HLB.out HLM.out (fun v7 w7 ho7 hg7 hn7 => ?_)
        have HF7 := Lib.hid (show Fr (ownL t.v) Wb w7 from Fr.grown hg7 fun k hk => by rw [mem_ownL, HVV.out]; exact hk)
        have HM7 := Lib.hid (show Muts (ownL t.v) Wb from fun g hg => by
          have e := mem_ownL.1 hg
          exact ⟨_, by decide, HTAb.out.own.typ e⟩)
        have HBX7 := Lib.hid (show Blk t.b (tca t) 93 w7 from HF7.out.blk HTAb.out.box fun hm => Typ.ne (HTAb.out.own.typ (mem_ownL.1 hm)) HTAb.out.box.typ (by decide) rfl)
        have HO7 := Lib.hid ho7
        have HNN7 := Lib.hid hn7
        have HAA7 := Lib.hid (show ∀ y ∈ t.ms ++ [m'], OwnM B y w7 from fun y hy => by
          rcases List.mem_append.1 hy with q | q
          · exact (HTAb.out.acts y q).fr HF7.out HM7.out
          · simp only [List.mem_cons, List.not_mem_nil, or_false] at q
            subst q
            exact HAMWb.out.fr HF7.out HM7.out)
        have HB07 := Lib.hid (show Blk b0 (mca m') 40 w7 from HF7.out.blk hS fun hm => HNB0.out (by
          simp only [Um.muts, List.mem_cons, List.mem_append]
          exact .inr (.inr (mem_mutsT.2 ⟨t, List.mem_of_getElem? HTX.out, by simp only [Tm.mut, List.mem_cons]; exact .inr hm⟩))))
        refine hK.out _ _ HB07.out (fun hS => ?_)
        clear hK K ho7 hg7 hn7
        try simp only [Act.put, List.setIfInBounds_toArray, List.set_cons_zero, List.set_cons_succ]
        refine seqRead 8 (v := _) rfl (by kernel_rfl) (by kernel_rfl) (by kernel_rfl) (fun _ _ _ h => h) rfl (fun w hSw => by go_simp <;> with_reducible rfl) hS ?_
        try simp only [Act.put, List.setIfInBounds_toArray, List.set_cons_zero, List.set_cons_succ]
        refine seqRead 9 (v := _) rfl (by kernel_rfl) (by kernel_rfl) (by kernel_rfl) (fun _ _ _ h => h) rfl (fun w hSw => by go_simp <;> with_reducible rfl) hS ?_
        try simp only [Act.put, List.setIfInBounds_toArray, List.set_cons_zero, List.set_cons_succ]
        refine seqCall 10 rfl (by kernel_rfl) rfl (fun K hK => ?_)
        have HTH7 := Lib.hid (show w7.there t.b 1 1 from HBX7.out.there (by show 2 ≤ 3; decide))
        have HONE := Lib.hid (show v7.oneCell' = true by obtain ⟨q, cc, e⟩ := HO7.out.form; rw [e]; rfl)
        refine stWp 50 _ _ rfl t.b 1 v7 rfl rfl HONE.out HTH7.out infoSM ?_
        refine hK.out _ _ (show Blk b0 (mca m') 40 (w7.setCell ⟨t.b, 1, none⟩ v7) from (heap_setCell_other _ _ _ _ (fun e => HNB0.out (by
          simp only [Um.muts, List.mem_cons, List.mem_append]
          exact .inr (.inr (mem_mutsT.2 ⟨t, List.mem_of_getElem? HTX.out, by rw [e]; simp [Tm.mut]⟩))))).trans HB07.out) (fun hS => ?_)
        clear hK K
        have HF8 := Lib.hid (Fr.cell w7 ⟨t.b, 1, none⟩ v7 (M := [t.b]) (by simp))
        have HM8 := Lib.hid (show Muts [t.b] w7 from fun g hg => by
          simp only [List.mem_cons, List.not_mem_nil, or_false] at hg
          subst hg
          exact ⟨_, by decide, HBX7.out.typ⟩)
        have HT8 := Lib.hid (show TxA B ⟨t.b, t.id, v7, t.ms ++ [m'], t.ref⟩ (w7.setCell ⟨t.b, 1, none⟩ v7) from
          ⟨HBX7.out.one (k := 1) v7, HTAb.out.ge, HF8.out.owns HO7.out fun g hg hm => by
            simp only [List.mem_cons, List.not_mem_nil, or_false] at hm
            subst hm
            exact Typ.ne (HO7.out.typ hg) HBX7.out.typ (by decide) rfl, fun y hy => (HAA7.out y hy).fr HF8.out HM8.out⟩)
        have HFT := Lib.hid (show Fr t.mut Wb (w7.setCell ⟨t.b, 1, none⟩ v7) from (HF7.out.mono fun g hg => .inl (by simp only [Tm.mut, List.mem_cons]; exact .inr hg)).tr (HF8.out.mono fun g hg => .inl (by
          simp only [List.mem_cons, List.not_mem_nil, or_false] at hg
          subst hg
          simp [Tm.mut])))
        have HST := Lib.hid (UniA.setTx (t' := ⟨t.b, t.id, v7, t.ms ++ [m'], t.ref⟩) HUWb.out HTX.out rfl HT8.out HFT.out fun g hg => by
          rcases HNN7.out with q | q
          · rw [q] at hg
            exact .inl (by rw [HVV.out]; exact hg)
          · rw [q] at hg
            injection hg with hg
            exact .inr (by omega))
        have HUF8 := Lib.hid (HUFWb.out.trans HST.out.2)
        clear HTH7 HONE HF8 HM8 HT8 HFT HBX7 HO7 HAA7 HB07 HF7 HM7 HNN7 HTAb
        generalize w7.setCell ⟨t.b, 1, none⟩ v7 = w8 at *
        try simp only [Act.put]
        refine seqDone (by kernel_rfl) ?_
        clear hS
        go_wp2_with fail
        go_ret
        refine ⟨_, by rw [← HEE.out, HE0.out]; rfl, chgS_of HUN.out HTX.out HR.out ⟨t.b, t.id, v7, t.ms ++ [m'], t.ref⟩ ?_, by have h := HST.out.1; rw [← HP2.out] at h; exact h, HP2.out, by have h := HUF8.out; rw [← HP2.out] at h; exact h⟩
        rw [← HEE.out, HE0.out, if_pos rfl]
        show (⟨t.id, (t.ms ++ [m']).map (·.u), t.ref⟩ : Tx) = ⟨t.id, t.ms.map (·.u) ++ [m.u], t.ref⟩
        rw [List.map_append, List.map_cons, List.map_nil, HMU.out]
      · refine kbuildOneWp KM okM #[Value.int IntKind.i64 0, Value.int IntKind.u64 0, Value.int IntKind.u64 0, Value.int IntKind.u64 0, Value.int IntKind.u64 0, Value.int IntKind.u64 0, Value.int IntKind.u64 0, Value.int IntKind.u64 0, Value.int IntKind.u64 0, Value.int IntKind.u64 0, Value.int IntKind.u64 0, Value.int IntKind.u64 0, Value.int IntKind.u64 0, Value.int IntKind.u64 0, Value.int IntKind.u64 0, Value.int IntKind.u64 0, Value.int IntKind.u64 0, Value.int IntKind.u64 0, Value.int IntKind.u64 0, Value.int IntKind.u64 0, Value.int IntKind.u64 0, Value.int IntKind.u64 0, Value.int IntKind.u64 0, Value.int IntKind.u64 0, Value.int IntKind.u64 0, Value.int IntKind.i64 0, Value.slice none 0 0, Value.int IntKind.i64 0, Value.int IntKind.i64 0, Value.int IntKind.i64 0, Value.bool false] zeroMd (.tmp 34) rfl (mca m') rfl (by decide) (fillMd m') ?_
        have HUWb := Lib.hid (HUW.out.below (below1 W (.cells (mca m') KM.T)))
        have RBWb := Lib.hid (Blk.new W (mca m') KM.T)
        have HAMWb := Lib.hid (HAMW.out.below (below1 W (.cells (mca m') KM.T)))
        have HUFWb := Lib.hid (HUFW.out.trans (UFr.of _ (below1 W (.cells (mca m') KM.T))))
        refine hK.out _ _ (hS.below (below1 W (.cells (mca m') KM.T))) (fun hS => ?_)
        clear hK K
        generalize hWb : W.alloc (.cells (mca m') KM.T) = Wb at *
        clear hWb
        try simp only [Act.put, List.setIfInBounds_toArray, List.set_cons_zero, List.set_cons_succ]
        refine seqCall 4 rfl (by kernel_rfl) rfl (fun K hK => ?_)
        have k1 : Wb.cell? ⟨t.b, 1, none⟩ = some (.slice pv t.ms.length cv) := by rw [← HVV.out]; exact (HUWb.out.txs t (List.mem_of_getElem? HTX.out)).v_
        refine rdWp (.slice pv t.ms.length cv) (by go_simp <;> with_reducible rfl) ?_
        refine hK.out _ _ hS (fun hS => ?_)
        clear hK K k1
        try simp only [Act.put, List.setIfInBounds_toArray, List.set_cons_zero, List.set_cons_succ]
        refine seqCall 7 rfl (by kernel_rfl) rfl (fun K hK => ?_)
        have HTAb := Lib.hid (HUWb.out.txs t (List.mem_of_getElem? HTX.out))
        have HLB := Lib.hid (show B ≤ Wb.heap.size by have := HUWb.out.lt; have := HUWb.out.ge; omega)
        refine kappendWWp KM okM (.tmp 33) (.tmp 35) rfl B (.slice pv t.ms.length cv) t.ms [m'] rfl (by rw [← HVV.out]; exact HTAb.out.own) _ rfl (oneM RBWb.out) HLB.out HLM.out (fun v7 w7 ho7 hg7 hn7 => ?_)
        have HF7 := Lib.hid (show Fr (ownL t.v) Wb w7 from Fr.grown hg7 fun k hk => by rw [mem_ownL, HVV.out]; exact hk)
        have HM7 := Lib.hid (show Muts (ownL t.v) Wb from fun g hg => by
          have e := mem_ownL.1 hg
          exact ⟨_, by decide, HTAb.out.own.typ e⟩)
        have HBX7 := Lib.hid (show Blk t.b (tca t) 93 w7 from HF7.out.blk HTAb.out.box fun hm => Typ.ne (HTAb.out.own.typ (mem_ownL.1 hm)) HTAb.out.box.typ (by decide) rfl)
        have HO7 := Lib.hid ho7
        have HNN7 := Lib.hid hn7
        have HAA7 := Lib.hid (show ∀ y ∈ t.ms ++ [m'], OwnM B y w7 from fun y hy => by
          rcases List.mem_append.1 hy with q | q
          · exact (HTAb.out.acts y q).fr HF7.out HM7.out
          · simp only [List.mem_cons, List.not_mem_nil, or_false] at q
            subst q
            exact HAMWb.out.fr HF7.out HM7.out)
        have HB07 := Lib.hid (show Blk b0 (mca m') 40 w7 from HF7.out.blk hS fun hm => HNB0.out (by
          simp only [Um.muts, List.mem_cons, List.mem_append]
          exact .inr (.inr (mem_mutsT.2 ⟨t, List.mem_of_getElem? HTX.out, by simp only [Tm.mut, List.mem_cons]; exact .inr hm⟩))))
        refine hK.out _ _ HB07.out (fun hS => ?_)
        clear hK K ho7 hg7 hn7
        try simp only [Act.put, List.setIfInBounds_toArray, List.set_cons_zero, List.set_cons_succ]
        refine seqRead 8 (v := _) rfl (by kernel_rfl) (by kernel_rfl) (by kernel_rfl) (fun _ _ _ h => h) rfl (fun w hSw => by go_simp <;> with_reducible rfl) hS ?_
        try simp only [Act.put, List.setIfInBounds_toArray, List.set_cons_zero, List.set_cons_succ]
        refine seqRead 9 (v := _) rfl (by kernel_rfl) (by kernel_rfl) (by kernel_rfl) (fun _ _ _ h => h) rfl (fun w hSw => by go_simp <;> with_reducible rfl) hS ?_
        try simp only [Act.put, List.setIfInBounds_toArray, List.set_cons_zero, List.set_cons_succ]
        refine seqCall 10 rfl (by kernel_rfl) rfl (fun K hK => ?_)
        have HTH7 := Lib.hid (show w7.there t.b 1 1 from HBX7.out.there (by show 2 ≤ 3; decide))
        have HONE := Lib.hid (show v7.oneCell' = true by obtain ⟨q, cc, e⟩ := HO7.out.form; rw [e]; rfl)
        refine stWp 50 _ _ rfl t.b 1 v7 rfl rfl HONE.out HTH7.out infoSM ?_
        refine hK.out _ _ (show Blk b0 (mca m') 40 (w7.setCell ⟨t.b, 1, none⟩ v7) from (heap_setCell_other _ _ _ _ (fun e => HNB0.out (by
          simp only [Um.muts, List.mem_cons, List.mem_append]
          exact .inr (.inr (mem_mutsT.2 ⟨t, List.mem_of_getElem? HTX.out, by rw [e]; simp [Tm.mut]⟩))))).trans HB07.out) (fun hS => ?_)
        clear hK K
        have HF8 := Lib.hid (Fr.cell w7 ⟨t.b, 1, none⟩ v7 (M := [t.b]) (by simp))
        have HM8 := Lib.hid (show Muts [t.b] w7 from fun g hg => by
          simp only [List.mem_cons, List.not_mem_nil, or_false] at hg
          subst hg
          exact ⟨_, by decide, HBX7.out.typ⟩)
        have HT8 := Lib.hid (show TxA B ⟨t.b, t.id, v7, t.ms ++ [m'], t.ref⟩ (w7.setCell ⟨t.b, 1, none⟩ v7) from
          ⟨HBX7.out.one (k := 1) v7, HTAb.out.ge, HF8.out.owns HO7.out fun g hg hm => by
            simp only [List.mem_cons, List.not_mem_nil, or_false] at hm
            subst hm
            exact Typ.ne (HO7.out.typ hg) HBX7.out.typ (by decide) rfl, fun y hy => (HAA7.out y hy).fr HF8.out HM8.out⟩)
        have HFT := Lib.hid (show Fr t.mut Wb (w7.setCell ⟨t.b, 1, none⟩ v7) from (HF7.out.mono fun g hg => .inl (by simp only [Tm.mut, List.mem_cons]; exact .inr hg)).tr (HF8.out.mono fun g hg => .inl (by
          simp only [List.mem_cons, List.not_mem_nil, or_false] at hg
          subst hg
          simp [Tm.mut])))
        have HST := Lib.hid (UniA.setTx (t' := ⟨t.b, t.id, v7, t.ms ++ [m'], t.ref⟩) HUWb.out HTX.out rfl HT8.out HFT.out fun g hg => by
          rcases HNN7.out with q | q
          · rw [q] at hg
            exact .inl (by rw [HVV.out]; exact hg)
          · rw [q] at hg
            injection hg with hg
            exact .inr (by omega))
        have HUF8 := Lib.hid (HUFWb.out.trans HST.out.2)
        clear HTH7 HONE HF8 HM8 HT8 HFT HBX7 HO7 HAA7 HB07 HF7 HM7 HNN7 HTAb
        generalize w7.setCell ⟨t.b, 1, none⟩ v7 = w8 at *
        try simp only [Act.put]
        refine seqDone (by kernel_rfl) ?_
        clear hS
        go_wp2_with fail
        go_ret
        refine ⟨_, by rw [← HEE.out, HE0.out]; rfl, chgS_of HUN.out HTX.out HR.out ⟨t.b, t.id, v7, t.ms ++ [m'], t.ref⟩ ?_, by have h := HST.out.1; rw [← HP2.out] at h; exact h, HP2.out, by have h := HUF8.out; rw [← HP2.out] at h; exact h⟩
        rw [← HEE.out, HE0.out, if_pos rfl]
        show (⟨t.id, (t.ms ++ [m']).map (·.u), t.ref⟩ : Tx) = ⟨t.id, t.ms.map (·.u) ++ [m.u], t.ref⟩
        rw [List.map_append, List.map_cons, List.map_nil, HMU.out]
    · have he : (E != 0) = true := by simpa using h0
      have HE0 := Lib.hid h0
      have HTH := Lib.hid (show w3.there t.b 2 1 from HTA3.out.box.there (by show 3 ≤ 3; decide))
      clear h0 HI3 R3 HN3
      go_wp2_with (refine storeCell rfl 4 _ _ rfl t.b 2 (.bool true) rfl rfl rfl HTH.out infoBool ?_; refine Hid.out ?_)
      have HF8 := Lib.hid (Fr.cell w3 ⟨t.b, 2, none⟩ (.bool true) (M := [t.b]) (by simp))
      have HM8 := Lib.hid (show Muts [t.b] w3 from fun g hg => by
        simp only [List.mem_cons, List.not_mem_nil, or_false] at hg
        subst hg
        exact ⟨_, by decide, HTA3.out.box.typ⟩)
      have HT8 := Lib.hid (show TxA B ⟨t.b, t.id, t.v, t.ms, true⟩ (w3.setCell ⟨t.b, 2, none⟩ (.bool true)) from
        ⟨HTA3.out.box.one (k := 2) (.bool true), HTA3.out.ge, HF8.out.owns HTA3.out.own fun g hg hm => by
          simp only [List.mem_cons, List.not_mem_nil, or_false] at hm
          subst hm
          exact Typ.ne (HTA3.out.own.typ hg) HTA3.out.box.typ (by decide) rfl, fun y hy => (HTA3.out.acts y hy).fr HF8.out HM8.out⟩)
      have HFT := Lib.hid (show Fr t.mut w3 (w3.setCell ⟨t.b, 2, none⟩ (.bool true)) from HF8.out.mono fun g hg => .inl (by
        simp only [List.mem_cons, List.not_mem_nil, or_false] at hg
        subst hg
        simp [Tm.mut]))
      have HST := Lib.hid (UniA.setTx (t' := ⟨t.b, t.id, t.v, t.ms, true⟩) HU3.out HTX.out rfl HT8.out HFT.out fun g hg => .inl hg)
      have HUF8 := Lib.hid (HUF3.out.trans HST.out.2)
      clear HTH HF8 HM8 HT8 HFT HTA3 HU3 HUF3
      generalize w3.setCell ⟨t.b, 2, none⟩ (.bool true) = w8 at *
      refine Lib.hid ?_
      go_wp2_with fail
      go_ret
      refine ⟨_, by rw [← HEE.out]; rfl, chgS_of HUN.out HTX.out HR.out ⟨t.b, t.id, t.v, t.ms, true⟩ ?_, by have h := HST.out.1; rw [← HP2.out] at h; exact h, HP2.out, by have h := HUF8.out; rw [← HP2.out] at h; exact h⟩
      rw [← HEE.out, if_neg HE0.out]
      rfl
  · have HCE := Lib.hid (chgE_ref (m := m.u) hun htx hr)
    have cr : w2.cell? ⟨t.b, 2, none⟩ = some (.bool true) := by rw [← hr]; exact HTA.out.ref_
    clear htx hun hU2 hp2 hf2 hn2 R2' hr HTR HU1 HI1 HT1 R1 HN1
    go_wp2_with fail
    go_ret
    exact ⟨x2, by rw [HCE.out.1]; rfl, HCE.out.2.symm, HU2.out, HP2.out, HUF2.out⟩
end Go.Proofs.YtomnpfbebimpkaaGreatDoor
