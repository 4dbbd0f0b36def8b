/-
  The transaction of a number, opened if it isn't.
-/
import Derived.Test.YtomnpfbebimpkaaGreatDoorUniChg
import Derived.Test.YtomnpfbebimpkaaGreatDoorLapTkM
namespace Go.Proofs.YtomnpfbebimpkaaGreatDoor
set_option maxRecDepth 20000
open Go.RowKit

theorem pl_tm (ts : List Tm) (id : Int) : plO (ts.map (·.tx)) id = (ts.findIdx? (qId id)).getD ts.length := by
  unfold plO
  rw [List.findIdx?_map, List.length_map]
  rfl
theorem kidx_pl (ts : List Tm) (id : Int) : (kidx (qId id) ts = -1 ∧ ¬ plO (ts.map (·.tx)) id < (ts.map (·.tx)).length) ∨ ∃ (i : Nat) (t : Tm), kidx (qId id) ts = (i : Int) ∧ plO (ts.map (·.tx)) id = i ∧ ts[i]? = some t ∧ t.id = id := by
  rw [pl_tm, List.length_map]
  unfold kidx
  cases h : ts.findIdx? (qId id) with
  | none => exact .inl ⟨rfl, by simp⟩
  | some i =>
    rw [List.findIdx?_eq_some_iff_getElem] at h
    obtain ⟨hi, h1, _⟩ := h
    exact .inr ⟨i, ts[i], rfl, rfl, List.getElem?_eq_getElem hi, by simpa [qId] using h1⟩
theorem zeroX : ((Tryz.prog.info? KX.T).bind (·.zero)).map (·.cells) = some #[.pointer none] := by kernel_rfl
theorem fillX (b : Nat) : Instr.fill (fun i' => some (i' * 1, 1)) ((Array.range (1 * 1)).map ((#[.pointer none] : Array Value)[· % (#[.pointer none] : Array Value).size]!)) [(0, .pointer (some ⟨b, 0, none⟩))] = some #[.pointer (some ⟨b, 0, none⟩)] := by kernel_rfl
def newTm (b : Nat) (id : Int) : Tm := ⟨b, id, .slice none 0 0, [], false⟩
theorem builtTx (id : Int) : Tryz.prog.built 93 [(0, .int .i64 id)] = some (tca (newTm 0 id)) := by kernel_rfl
theorem buildTx {ops : Array Oper} {rest : List Oper} {o : Oper} {a : Act} {w : World} {Q : Exit → Act → World → Prop} (hg : o.guard = none) (x : Operand) (ho : o.op = .build 93 #[(0, x)]) (n : Int) (hx : a.eval x = .int .i64 n)
    (k : wpList Tryz.prog ops Q rest (a.put o.dst (.agg (tca (newTm 0 n)))) w) : wpList Tryz.prog ops Q (o :: rest) a w := by
  have e : ((#[(0, x)] : Array (Nat × Operand)).map fun (p : Nat × Operand) => (p.1, a.eval p.2)).toList = [(0, .int .i64 n)] := by simp [hx]
  have e' := congrArg (Tryz.prog.built 93) e
  rw [builtTx] at e'
  refine wpList_build hg 93 _ ho (by rw [e']; rfl) ?_
  rw [e']
  exact k
theorem infoPs : (Tryz.prog.info? 79).map (·.size) = some 1 := by kernel_rfl
/-- one pointer in a block -/
theorem Blk.ptr {b c : Nat} {W : World} (h : Blk b #[.pointer (some ⟨c, 0, none⟩)] KX.T W) : KLies KX (.slice (some ⟨b, 0, none⟩) 1 1) [c] W := Blk.klies (l := [c]) h okX (by simp [Kd.flat])
/-- a unit's box, whatever it holds, at its place -/
structure BoxU (B p : Nat) (W : World) : Prop where
  typ : Typ W p 81
  ge : B ≤ p
theorem UniA.boxU {B : Nat} {x : Um} {W : World} (h : UniA B x W) : BoxU B x.p W := ⟨h.box.typ, h.ge⟩
/-- the box written -/
theorem UniA.wrote {B p : Nat} {x : Um} {W W' : World} (h : BoxU B p W) (e : x.p = p) (hW : Blk p (uca x) 81 W') (k : Fr [p] W W') (hL : OL B x.vb x.L W) (ho : KOwns KX B x.vo (x.ts.map (·.b)) W) (ht : ∀ t ∈ x.ts, TxA B t W) (hn : (mutsT x.ts).Nodup) : UniA B x W' := by
  subst e
  have hM : Muts [x.p] W := fun g hg => by
    simp only [List.mem_cons, List.not_mem_nil, or_false] at hg
    subst hg
    exact ⟨_, by decide, h.typ⟩
  refine ⟨hW, h.ge, hL.fr k hM, k.owns ho fun g hg hm => ?_, fun t htt => (ht t htt).fr k hM fun g hg hm => ?_, hn⟩
  · simp only [List.mem_cons, List.not_mem_nil, or_false] at hm
    subst hm
    exact Typ.ne (ho.typ hg) h.typ (by decide) rfl
  · simp only [List.mem_cons, List.not_mem_nil, or_false] at hm
    subst hm
    rcases List.mem_cons.1 hg with e | hg
    · exact Typ.ne h.typ (ht t htt).box.typ (by decide) e
    · exact Typ.ne h.typ ((ht t htt).own.typ (mem_ownL.1 hg)) (by decide) rfl
theorem mutsT_append (a b : List Tm) : mutsT (a ++ b) = mutsT a ++ mutsT b := by simp [mutsT]
theorem mutsT_new (b : Nat) (id : Int) : mutsT [newTm b id] = [b] := rfl
theorem Fr.tr {M : List Nat} {W W' W'' : World} (h : Fr M W W') (k : Fr M W' W'') : Fr M W W'' := h.trans k fun _ hg => .inl hg
/-- what transaction gives -/
def TrRet (x : Um) (B : Nat) (id : Int) (w : World) (e : Ending) (w' : World) : Prop :=
  ∃ (x' : Um) (t : Tm), e = .returned (.pointer (some ⟨t.b, 0, none⟩)) ∧ x'.ts[plO x.un.opn id]? = some t ∧ x'.un = { x.un with opn := opnO x.un.opn id } ∧ UniA B x' w' ∧ x'.p = x.p ∧ UFr x x' w w'
set_option maxHeartbeats 2000000 in
set_option maxRecDepth 100000 in
theorem un_trans (x : Um) (B : Nat) (id : Int) (hlen : x.ts.length ≤ 100000) (w : World) (h : UniA B x w) :
    Calls Tryz.prog 72 #[.pointer (some ⟨x.p, 0, none⟩), .int .i64 id] w (TrRet x B id w) := by
  obtain ⟨p, c, hv⟩ := h.voForm
  have HV := Lib.hid hv
  have HP := Lib.hid (un_place x B id hlen w h)
  have HU := Lib.hid h
  clear h hv
  rcases kidx_pl x.ts id with ⟨e1, e2⟩ | ⟨i, t, e1, e2, ht, hid⟩
  · rw [e1] at HP
    have HPL := Lib.hid e2
    clear e1 e2
    obtain ⟨n, hn⟩ : ∃ n, n = x.ts.length := ⟨_, rfl⟩
    have HN := Lib.hid hn
    rw [← hn] at hlen HV
    clear hn
    go_enter Tryz.func72, Tryz.ntmps72
    go_wp2_with (go_at_call 76; refine HP.out.mono ?_; rintro e w1 ⟨rfl, hw1⟩; refine Hid.out ?_)
    have HU1 := Lib.hid (HU.out.below hw1)
    have HB1 := Lib.hid hw1
    clear hw1 HP HU
    have RT := Lib.hid (Blk.new w1 (tca (newTm w1.heap.size id)) 93)
    have HB2 := Lib.hid (below1 w1 (.cells (tca (newTm w1.heap.size id)) 93))
    have HU2 := Lib.hid (HU1.out.below HB2.out)
    have e0 : (tca (newTm 0 id)) = tca (newTm w1.heap.size id) := rfl
    refine Lib.hid ?_
    go_upto_region 5 with (refine buildTx rfl _ rfl id rfl ?_; rw [e0])
    clear e0
    obtain ⟨nb, hnb⟩ : ∃ nb, nb = w1.heap.size := ⟨_, rfl⟩
    rw [← hnb] at RT HU2 HB2 ⊢
    have HNB := Lib.hid hnb
    clear hnb
    generalize hW2 : w1.alloc (.cells (tca (newTm nb id)) 93) = w2 at *
    clear hW2
    have c2 : w2.cell? ⟨x.p, 2, none⟩ = some (.slice p n c) := by rw [← HV.out]; exact HU2.out.vo_
    have RX := Lib.hid (Blk.new w2 #[.pointer (some ⟨nb, 0, none⟩)] KX.T)
    have HB3 := Lib.hid (below1 w2 (.cells #[.pointer (some ⟨nb, 0, none⟩)] KX.T))
    have HU3 := Lib.hid (HU2.out.below HB3.out)
    have RT3 := Lib.hid (RT.out.below HB3.out)
    have HOX := Lib.hid (show KOwns KX B (.slice p n c) (x.ts.map (·.b)) (w2.alloc (.cells #[.pointer (some ⟨nb, 0, none⟩)] KX.T)) by rw [← HV.out]; exact HU3.out.opn)
    have HLE := Lib.hid (show B ≤ (w2.alloc (.cells #[.pointer (some ⟨nb, 0, none⟩)] KX.T)).heap.size by have := HU3.out.lt; have := HU3.out.ge; omega)
    have HLL := Lib.hid (show (x.ts.map (·.b)).length + [nb].length ≤ 1000000 by rw [List.length_map, ← HN.out, List.length_singleton]; omega)
    go_wp2_with (first
      | (refine kbuild KX okX 1 #[.pointer none] zeroX rfl _ rfl [(0, .pointer (some ⟨nb, 0, none⟩))] rfl #[.pointer (some ⟨nb, 0, none⟩)] (by decide) (by decide) (fillX nb) ?_)
      | (refine kappendW KX okX rfl _ _ rfl B _ _ [nb] rfl HOX.out _ rfl (Blk.ptr RX.out) HLE.out HLL.out (fun v' w4 ho hg hn => ?_); refine Hid.out ?_))
    generalize hW3 : w2.alloc (.cells #[.pointer (some ⟨nb, 0, none⟩)] KX.T) = w3 at *
    clear hW3 c2
    have HO4 := Lib.hid ho
    have HG4 := Lib.hid hg
    have HN4 := Lib.hid hn
    have HF4 := Lib.hid (show Fr (ownL x.vo) w3 w4 from Fr.grown hg fun k hk => by rw [mem_ownL, HV.out]; exact hk)
    have HM4 := Lib.hid (show Muts (ownL x.vo) w3 from fun g hg' => HU3.out.muts g (by simp only [Um.muts, List.mem_cons, List.mem_append]; exact .inr (.inl hg')))
    have HX4 := Lib.hid (show Blk x.p (uca x) 81 w4 from HF4.out.blk HU3.out.box fun hm => HU3.out.notVo (mem_ownL.1 hm))
    have HL4 := Lib.hid (HU3.out.base.fr HF4.out HM4.out)
    have HT4 := Lib.hid (show ∀ t ∈ x.ts, TxA B t w4 from fun t ht => (HU3.out.txs t ht).fr HF4.out HM4.out fun g hg' hm => HU3.out.voTx (mem_ownL.1 hm) (mem_mutsT.2 ⟨t, ht, hg'⟩))
    have HNT := Lib.hid (show TxA B (newTm nb id) w4 from
      ⟨HF4.out.blk RT3.out fun hm => Typ.ne (HU3.out.opn.typ (mem_ownL.1 hm)) RT3.out.typ (by decide) rfl, by show B ≤ nb; rw [HNB.out]; have := HU1.out.lt; have := HU1.out.ge; omega, KOwns.nil _ _, fun m hm => by cases hm⟩)
    clear ho hg hn HOX HLE RX
    have HTH := Lib.hid (show w4.there x.p 2 1 from HX4.out.there (by show 3 ≤ 4; decide))
    have HBX := Lib.hid (HX4.out.one (k := 2) v')
    have HFW := Lib.hid (Fr.cell w4 ⟨x.p, 2, none⟩ v' (M := [x.p]) (by simp))
    have hone : v'.oneCell' = true := by obtain ⟨q, cc, e⟩ := HO4.out.form; rw [e]; rfl
    have HONE := Lib.hid hone
    clear hone
    refine Lib.hid ?_
    go_wp2_with (refine storeCell rfl 79 _ _ rfl x.p 2 v' rfl rfl HONE.out HTH.out infoPs ?_; refine Hid.out ?_)
    have HX5 := Lib.hid (show UniA B ⟨x.p, x.room, x.vb, x.L, v', x.ts ++ [newTm nb id], x.fail⟩ (w4.setCell ⟨x.p, 2, none⟩ v') from
      UniA.wrote (p := x.p) ⟨HX4.out.typ, HU1.out.ge⟩ rfl HBX.out HFW.out HL4.out (by have := HO4.out; simpa [newTm] using this) (fun t ht => by
        rcases List.mem_append.1 ht with q | q
        · exact HT4.out t q
        · simp only [List.mem_cons, List.not_mem_nil, or_false] at q
          subst q
          exact HNT.out) (by
        show (mutsT (x.ts ++ [newTm nb id])).Nodup
        rw [mutsT_append, mutsT_new, List.nodup_append]
        refine ⟨HU1.out.nod, by simp, fun a ha b hb => ?_⟩
        simp only [List.mem_cons, List.not_mem_nil, or_false] at hb
        subst hb
        have := HU1.out.muts.lt a (by simp only [Um.muts, List.mem_cons, List.mem_append]; exact .inr (.inr ha))
        have := HNB.out
        omega))
    have HS3 := Lib.hid (show Below w.heap.size w w3 from (HB1.out.trans (HB2.out.mono (by rw [HNB.out]; exact HB1.out.size))).trans (HB3.out.mono (Nat.le_trans HB1.out.size HB2.out.size)))
    have HUF := Lib.hid (show UFr x ⟨x.p, x.room, x.vb, x.L, v', x.ts ++ [newTm nb id], x.fail⟩ w (w4.setCell ⟨x.p, 2, none⟩ v') from
      ⟨(Fr.of HS3.out).tr ((HF4.out.mono fun g hg => .inl (by simp only [Um.muts, List.mem_cons, List.mem_append]; exact .inr (.inl hg))).tr (HFW.out.mono fun g hg => .inl (by
        simp only [List.mem_cons, List.not_mem_nil, or_false] at hg
        subst hg
        simp [Um.muts]))), fun g hg => by
        simp only [Um.muts, List.mem_cons, List.mem_append, mutsT_append, mutsT_new, List.not_mem_nil, or_false] at hg
        rcases hg with rfl | hg | hg | rfl
        · exact .inl (by simp [Um.muts])
        · have e := mem_ownL.1 hg
          rcases HN4.out with q | q
          · rw [q, ← HV.out] at e
            exact .inl (by simp only [Um.muts, List.mem_cons, List.mem_append]; exact .inr (.inl (mem_ownL.2 e)))
          · rw [q] at e
            injection e with e
            have := HS3.out.size
            exact .inr (by omega)
        · exact .inl (by simp only [Um.muts, List.mem_cons, List.mem_append]; exact .inr (.inr hg))
        · have := HB1.out.size
          have := HNB.out
          exact .inr (by omega)⟩)
    clear HTH HBX HFW HONE HO4 HN4 HF4 HM4 HX4 HL4 HT4 HNT HG4 HU3 RT3
    generalize w4.setCell ⟨x.p, 2, none⟩ v' = w5 at *
    refine Lib.hid ?_
    go_wp2_with fail
    go_ret
    have hpl : plO x.un.opn id = x.ts.length := by
      have h1 := HPL.out
      have h2 := plO_le (x.ts.map (·.tx)) id
      rw [List.length_map] at h1 h2
      show plO (x.ts.map (·.tx)) id = _
      omega
    refine ⟨⟨x.p, x.room, x.vb, x.L, v', x.ts ++ [newTm nb id], x.fail⟩, newTm nb id, rfl, ?_, ?_, HX5.out, rfl, HUF.out⟩
    · rw [hpl, List.getElem?_append_right (Nat.le_refl _)]
      simp
    · show (⟨x.room, x.L.map (·.u), (x.ts ++ [newTm nb id]).map (·.tx), x.fail⟩ : Un) = ⟨x.room, x.L.map (·.u), opnO (x.ts.map (·.tx)) id, x.fail⟩
      unfold opnO
      rw [if_neg HPL.out, List.map_append]
      rfl
  · rw [e1] at HP
    have HT := Lib.hid ht
    have HPL := Lib.hid e2
    have hlt : i < x.ts.length := (List.getElem?_eq_some_iff.1 ht).1
    obtain ⟨n, hn⟩ : ∃ n, n = x.ts.length := ⟨_, rfl⟩
    have HN := Lib.hid hn
    rw [← hn] at hlen HV hlt
    have hltI : (i : Int) < (n : Int) := by omega
    have hge : (i : Int) ≥ 0 := by omega
    have hge2 : (0 : Int) ≤ (i : Int) := by omega
    clear hn e1 e2 ht hid
    go_enter Tryz.func72, Tryz.ntmps72
    go_wp2_with (go_at_call 76; refine HP.out.mono ?_; rintro e w1 ⟨rfl, hw1⟩; refine Hid.out ?_)
    have HU1 := Lib.hid (HU.out.below hw1)
    have HB1 := Lib.hid hw1
    have c2 : w1.cell? ⟨x.p, 2, none⟩ = some (.slice p n c) := by rw [← HV.out]; exact HU1.out.vo_
    obtain ⟨b, o, rfl, hrg⟩ := (show KLies KX (.slice p n c) (x.ts.map (·.b)) w1 by rw [← HV.out]; exact HU1.out.opn.lies okX).at (i := i) (a := t.b) (by rw [List.getElem?_map, HT.out]; rfl)
    obtain ⟨c0, c1⟩ := ptrAt hrg
    clear hw1 HP HU hrg
    refine Lib.hid ?_
    go_wp2_with fail
    go_ret
    refine ⟨x, t, rfl, ?_, ?_, HU1.out, rfl, UFr.of x HB1.out⟩
    · show x.ts[plO (x.ts.map (·.tx)) id]? = some t
      rw [HPL.out]
      exact HT.out
    · show x.un = ⟨x.room, x.L.map (·.u), opnO (x.ts.map (·.tx)) id, x.fail⟩
      unfold opnO
      rw [if_pos (by rw [HPL.out, List.length_map]; exact (List.getElem?_eq_some_iff.1 HT.out).1)]
      rfl
end Go.Proofs.YtomnpfbebimpkaaGreatDoor
