/-
  The reference's Apply: all but an Add.
-/
import Derived.Test.YtomnpfbebimpkaaGreatDoorModRTou
import Derived.Test.YtomnpfbebimpkaaGreatDoorModRaR
import Derived.Test.YtomnpfbebimpkaaGreatDoorRuleRStM
namespace Go.Proofs.YtomnpfbebimpkaaGreatDoor
set_option maxRecDepth 20000
open Go.RowKit

/-- the places that meet a condition, from one on -/
def fromH (q : Rm → Bool) (l : List Rm) (r : Nat) : List Nat := (List.range' r (l.length - r)).filter (hitAt q l)
section
variable {q : Rm → Bool} {l : List Rm} {r : Nat} {x : Rm}
theorem fromH_zero : hits q l l.length = fromH q l 0 := by
  unfold hits fromH
  rw [List.range_eq_range', Nat.sub_zero]
theorem fromH_step (hx : l[r]? = some x) : fromH q l r = if q x then r :: fromH q l (r + 1) else fromH q l (r + 1) := by
  have hr : r < l.length := (List.getElem?_eq_some_iff.1 hx).1
  unfold fromH
  rw [show l.length - r = (l.length - (r + 1)) + 1 by omega, List.range'_succ, List.filter_cons]
  simp only [hitAt, hx]
theorem fromH_ge {i : Nat} (h : i ∈ fromH q l r) : r ≤ i := by
  unfold fromH at h
  have := (List.mem_filter.1 h).1
  rw [List.mem_range'_1] at this
  exact this.1
theorem fromH_len : (fromH q l r).length ≤ l.length := by
  unfold fromH
  have := List.length_filter_le (hitAt q l) (List.range' r (l.length - r))
  rw [List.length_range'] at this
  omega
end
/-- what all but an Add make of a list -/
def otU (m : Mu) (us : List Ru) : List Ru := if m.kind = 2 ∨ m.kind = 4 then us.map (modU m) else us.filter fun u => !tchB m u
section
variable {us : List Ru} {m : Mu} {u : Ru}
theorem otU_no (h : tchB m u = false) : otU m (us ++ [u]) = otU m us ++ [u] := by
  unfold otU modU
  split
  · simp [h]
  · rw [List.filter_append]; simp [h]
theorem otU_mod (hk : m.kind = 2 ∨ m.kind = 4) (h : tchB m u = true) : otU m (us ++ [u]) = otU m us ++ [{ u with acts := m.acts }] := by
  unfold otU modU
  rw [if_pos hk, if_pos hk]
  simp [h]
theorem otU_del (hk : ¬ (m.kind = 2 ∨ m.kind = 4)) (h : tchB m u = true) : otU m (us ++ [u]) = otU m us := by
  unfold otU
  rw [if_neg hk, if_neg hk, List.filter_append]
  simp [h]
theorem otU_all (hk : m.kind ≠ 1) : applyL us m = otU m us := by
  unfold applyL otU
  rw [if_neg hk]
theorem otU_len : (otU m us).length ≤ us.length := by
  unfold otU
  split
  · simp
  · exact List.length_filter_le _ _
end
theorem elemI : Tryz.prog.underlying 48 = some (.slice (Tryz.prog.elem 48)) := by kernel_rfl
theorem sizeElI (w : World) : (Go.sizeOf (Tryz.prog.elem 48)).run Tryz.prog w = .ok 1 w := Tryz.sizeOf3 w
theorem execFromI {a : Act} {oi : Oper} {w : World} {x y : Operand} (ho : oi.op = .slice 48 x (some y) none none) (p : Option Addr) (len cap c : Nat) (hx : a.eval x = .slice p len cap) (hy : a.eval y = .int .i64 (c : Int))
    (hc : c ≤ len) : (execOp a.eval oi).run Tryz.prog w = .ok (.value (fromV 1 p len cap c)) w := by
  unfold execOp
  simp only [ho, hx, Option.map_some, Option.map_none, hy, Sem.run_bind]
  rw [run_sliceAt_slice (h := elemI), run_slice_l (ht := elemI) (h0 := by omega) (h1 := by omega), sizeElI]
  simp [Result.andThen, sliced, fromV]
theorem wpFromI {ops : Array Oper} {rest : List Oper} {oi : Oper} {a : Act} {w : World} {Q : Exit → Act → World → Prop} (hg : oi.guard = none) (x y : Operand) (ho : oi.op = .slice 48 x (some y) none none) (p : Option Addr) (len cap c : Nat) (hx : a.eval x = .slice p len cap) (hy : a.eval y = .int .i64 (c : Int))
    (hc : c ≤ len) (h : wpList Tryz.prog ops Q rest (a.put oi.dst (fromV 1 p len cap c)) w) : wpList Tryz.prog ops Q (oi :: rest) a w :=
  wpList_plain hg fun _ hK => by
    unfold Oper.wp
    rw [execFromI ho p len cap c hx hy hc]
    exact hK _ _ h
theorem rca_setA (r : Rm) (acts : List Ac) (q : Option Addr) (n c : Nat) : (rca r).setIfInBounds 25 (.slice q n c) = rca ⟨{ r.u with acts := acts }, q, n, c⟩ := by
  apply Array.ext'
  simp only [rca, rcl, Array.toList_setIfInBounds]
  rw [show 25 = 24 + 1 from rfl, List.set_append_right _ _ (by simp [cl])]
  simp [cl, rtl]
theorem Blk.setA {b : Nat} {r : Rm} {t : TypeId} {W : World} (h : Blk b (rca r) t W) (acts : List Ac) (q : Option Addr) (n c : Nat) : Blk b (rca ⟨{ r.u with acts := acts }, q, n, c⟩) t (W.setCell ⟨b, 25, none⟩ (.slice q n c)) := by
  rw [← rca_setA]; exact h.one _
set_option maxRecDepth 100000 in
set_option maxHeartbeats 8000000 in
theorem rapply_oth (v : Value) (l : List Rm) (hlen : l.length ≤ 9000) (hwl : WfRL l) (m : Mm) (hw : WfM m.u) (hk : m.u.kind ≠ 1) (hs : sndM m.u = true) (htab : tabU (l.map (·.u)) = true) (room : Int) (w : World) (hl : RLies v l w) (ha : InM m w) (ht : Tab w) (hz : 0 < w.heap.size) :
    Calls Tryz.prog 26 #[v, .agg (mca m), .int .i64 room] w (RaO w l m room) := by
  obtain ⟨p, cap, rfl⟩ := hl.1.form
  have HS := Lib.hid (show ApS w (.slice p l.length cap) l m (w.alloc (.cells (mca m) 40)) from ⟨hl.below (below1 _ _), ha.below (below1 _ _), Blk.new _ _ _, (Env.start ht hz).alloc _⟩)
  have HT := Lib.hid (rtable_b _ l (by omega) hwl _ HS.out.1)
  rw [tabB_tabU, htab] at HT
  have HMo := Lib.hid (fun (W : World) (hS : ApS w (.slice p l.length cap) l m W) => rmod_any m hw W hS.2.1)
  rw [hs] at HMo
  have HTc := Lib.hid (show ∀ x : Rm, tcS m x = tchB m.u x.u from fun x => by unfold tcS; rw [hs, Bool.true_and])
  have HE := Lib.hid (applyE_other (room := room) htab hs hk)
  have HKs := Lib.hid (snd_kind hs)
  have HWL := Lib.hid hwl
  have HW := Lib.hid hw
  have hkd := eq_false0 hk
  have HK1 := Lib.hid hk
  clear hl ha hwl hw ht hs htab
  go_enter Tryz.func26, Tryz.ntmps26
  go_wp2_with (go_at_call 22; refine HT.out.mono ?_; rintro e w1 ⟨rfl, hw1⟩; refine Hid.out ?_)
  have HS1 := Lib.hid (ApS.below hw1 HS.out)
  have RM := Lib.hid HS1.out.2.2.1
  have HMo1 := Lib.hid (HMo.out _ HS1.out)
  clear hw1 HS HT HMo
  refine Lib.hid ?_
  go_upto_region 3 with (first
    | (refine loadRowG rfl 40 _ rfl w.heap.size rfl 40 (mca m) (0, 0) RM.out Tryz.underlying40 rfl infoM ?_)
    | (go_at_call 25; refine HMo1.out.mono ?_; rintro e w2 ⟨rfl, hw2⟩))
  have HS2 := Lib.hid (ApS.below hw2 HS1.out)
  have RM2 := Lib.hid HS2.out.2.2.1
  clear hw2 HS1 RM HMo1
  have HTo := Lib.hid (rtouched_any _ l (by omega) HWL.out m HW.out w2 HS2.out.1.1 HS2.out.2.1)
  have k0 := RM2.out.cellsM.1
  go_upto_region 21 with (first
    | (refine wpList_load_row rfl 40 _ rfl w.heap.size rfl 40 (mca m) (0, 0) _ RM2.out Tryz.underlying40 rfl infoM ?_)
    | (go_at_call 56; refine HTo.out.mono ?_; rintro e w3 ⟨v13, rfl, ho3, hw3⟩))
  have HS3 := Lib.hid (ApS.below hw3 HS2.out)
  have HH := Lib.hid (show KLies KI v13 (fromH (tcS m) l 0) w3 by rw [← fromH_zero]; exact ho3.lies okI)
  clear hw3 ho3 HS2 RM2 HTo k0
  go_wp2_with fail
  go_loopg [12, 13, 14] l.length (fun k t12 t13 t14 wr => ∃ (r : Nat) (L : List Rm), r + k = l.length ∧ t14 = .int .i64 r ∧ KLies KI t13 (fromH (tcS m) l r) w3 ∧ KOwns KR w3.heap.size t12 L wr ∧ (∀ y ∈ L, FromA l m y) ∧ L.map (·.u) = otU m.u ((l.take r).map (·.u)) ∧ Below w3.heap.size w3 wr)
  case atStart => exact ⟨0, [], by omega, rfl, HH.out, KOwns.nil _ _, fun y hy => (by cases hy), by simp [otU], Below.refl _ _⟩
  case round =>
    obtain ⟨r, L, hr, rfl, hkt, ho, hia, hu, hb⟩ := hrel
    have HKT := Lib.hid hkt
    have HO := Lib.hid ho
    have HIA := Lib.hid hia
    have HU := Lib.hid hu
    have HB := Lib.hid hb
    have hLl : L.length ≤ l.length := by
      have h1 := len_map hu
      have h2 := otU_len (m := m.u) (us := (l.take r).map (·.u))
      simp only [List.length_map, List.length_take] at h2
      omega
    clear hkt ho hia hu hb HH
    by_cases hlt : r < l.length
    rotate_left
    · have hltI : ¬ (r : Int) < (l.length : Int) := by omega
      have HRl := Lib.hid (show l.take r = l from List.take_of_length_le (by omega))
      go_wp2_with fail
      go_ret2
      exact ⟨_, L, by rw [HE.out]; rfl, by rw [appV_ok HE.out, otU_all HK1.out, HU.out, HRl.out], HO.out.mono HS3.out.2.2.2.kept.size, HIA.out, HS3.out.2.2.2.kept.trans (HB.out.mono HS3.out.2.2.2.kept.size)⟩
    have hltI : (r : Int) < (l.length : Int) := by omega
    obtain ⟨x, hx⟩ := lt_some hlt
    obtain ⟨b, o, rfl, _⟩ := HS3.out.1.1.at hx
    have HR := Lib.hid ((HS3.out.1.1.below okR HB.out).at' hx)
    have HX := Lib.hid hx
    have HXA := Lib.hid (show FromA l m x from fun W h1 _ => h1 x (List.mem_of_getElem? hx))
    have HST := Lib.hid (fromH_step (q := tcS m) hx)
    have HTK := Lib.hid (take_map_succ hx)
    clear hx
    go_upto_region 25 with (first
      | (refine wpList_load_mid rfl 88 _ rfl b (o + r * 32) rfl (rcl x) _ HR.out Tryz.underlying88 rfl infoR ?_)
      | (refine wpList_store_row rfl 88 _ _ rfl wr.heap.size (rca x) rfl rfl 88 _ (heap_alloc_new _ _) (by kernel_rfl) rfl (rca_one _) ?_; rw [World.setRow_alloc_new]))
    have RX := Lib.hid (Blk.new wr (rca x) 88)
    have HO1 := Lib.hid (HO.out.below (below1 wr (.cells (rca x) 88)))
    have HB1 := Lib.hid (HB.out.trans ((below1 wr (.cells (rca x) 88)).mono HB.out.size))
    have hbx : w3.heap.size ≤ wr.heap.size := HB.out.size
    have HOS := Lib.hid (HO.out.below ((below1 wr (.cells (rca x) 88)).setCell (p := ⟨wr.heap.size, 25, none⟩) (Nat.le_refl _) (.slice m.q m.n m.c)))
    clear HR HO HB
    generalize wr.alloc (.cells (rca x) 88) = W at *
    generalize wr.heap.size = bx at *
    cases htc : tcS m x
    · rw [htc] at HST
      have HF := Lib.hid (show fromH (tcS m) l r = fromH (tcS m) l (r + 1) from HST.out)
      have HUN := Lib.hid (show (L ++ [x]).map (·.u) = otU m.u ((l.take (r + 1)).map (·.u)) by rw [HTK.out, otU_no (by rw [← HTc.out]; exact htc), List.map_append, HU.out]; rfl)
      rw [HF.out] at HKT
      have HGE := Lib.hid (fun i (h : i ∈ fromH (tcS m) l (r + 1)) => fromH_ge h)
      have hfl := fromH_len (q := tcS m) (l := l) (r := r + 1)
      clear htc HST HF
      obtain ⟨Fl, hFl⟩ : ∃ Fl, Fl = fromH (tcS m) l (r + 1) := ⟨_, rfl⟩
      rw [← hFl] at HKT HGE hfl
      have HFl := Lib.hid hFl
      clear hFl
      cases Fl with
      | nil =>
        obtain ⟨pt, ct, rfl⟩ := HKT.out.form
        have HO2 := Lib.hid (HO1.out.below (below1 W (.cells (rca x) KR.T)))
        have HB2 := Lib.hid (HB1.out.trans ((below1 W (.cells (rca x) KR.T)).mono HB1.out.size))
        have HK2 := Lib.hid (Blk.klies (K := KR) (l := [x]) (Blk.new W (rca x) KR.T) okR (by simp [Kd.flat, rca]))
        go_upto_region 29 with fail
        go_wp2_with (first
          | (refine wpList_load_row rfl 88 (.tmp 15) rfl bx rfl 88 (rca x) (0, 0) _ RX.out Tryz.underlying88 rfl infoR ?_)
          | (refine kbuildOne KR okR #[Value.int IntKind.u64 0, Value.int IntKind.u64 0, Value.int IntKind.u64 0, Value.int IntKind.u64 0, Value.int IntKind.u64 0, Value.int IntKind.u64 0, Value.int IntKind.u64 0, Value.int IntKind.u64 0, Value.int IntKind.u64 0, Value.int IntKind.u64 0, Value.int IntKind.u64 0, Value.int IntKind.u64 0, Value.int IntKind.u64 0, Value.int IntKind.u64 0, Value.int IntKind.u64 0, Value.int IntKind.u64 0, Value.int IntKind.u64 0, Value.int IntKind.u64 0, Value.int IntKind.u64 0, Value.int IntKind.u64 0, Value.int IntKind.u64 0, Value.int IntKind.u64 0, Value.int IntKind.u64 0, Value.int IntKind.u64 0, Value.int IntKind.i64 0, Value.slice none 0 0, Value.int IntKind.i64 0, Value.int IntKind.i64 0, Value.int IntKind.i64 0, Value.int IntKind.i64 0, Value.int IntKind.i64 0, Value.int IntKind.i64 0] zeroR rfl (.tmp 126) rfl (rca x) rfl (by decide) (fillOne _) ?_)
          | (refine kappend KR okR rfl _ _ rfl w3.heap.size _ L [x] rfl HO2.out _ rfl HK2.out HB2.out.size (by simp; omega) (fun v' w' ho hg => ?_); refine Hid.out ?_))
        have HO4 := Lib.hid ho
        have HB4 := Lib.hid (kbelowOwn HB2.out HO2.out (Nat.le_refl _) hg)
        clear ho hg HO2 HB2 HK2 HO1 HB1 RX
        refine Lib.hid ?_
        go_wp2_with fail
        go_roundg (l.length - (r + 1))
        case measure => omega
        case rel => exact ⟨r + 1, _, by omega, by go_num, HFl.out ▸ HKT.out, HO4.out, fun z hz => (List.mem_append.1 hz).elim (HIA.out z) fun h => by simp only [List.mem_cons, List.not_mem_nil, or_false] at h; subst h; exact HXA.out, HUN.out, HB4.out⟩
      | cons i0 F' =>
        have hne : ((i0 : Int) == (r : Int)) = false := by
          have := HGE.out i0 (List.mem_cons_self ..)
          have h2 : (i0 : Int) ≠ (r : Int) := by omega
          simpa using h2
        obtain ⟨pt, ct, e13⟩ := HKT.out.form
        obtain ⟨nt, hnt⟩ : ∃ nt, nt = (i0 :: F').length := ⟨_, rfl⟩
        rw [← hnt] at e13
        subst e13
        have hn0 : (0 : Int) < (nt : Int) := by rw [hnt]; simp
        have hn1 : 0 < nt := by omega
        have HNT := Lib.hid hnt
        clear hnt
        obtain ⟨bt, ot, rfl, _⟩ := HKT.out.at (i := 0) (a := i0) rfl
        have kt := (HKT.out.below okI HB1.out).cellI (i := 0) (x := i0) rfl
        rw [Nat.add_zero] at kt
        have HO2 := Lib.hid (HO1.out.below (below1 W (.cells (rca x) KR.T)))
        have HB2 := Lib.hid (HB1.out.trans ((below1 W (.cells (rca x) KR.T)).mono HB1.out.size))
        have HK2 := Lib.hid (Blk.klies (K := KR) (l := [x]) (Blk.new W (rca x) KR.T) okR (by simp [Kd.flat, rca]))
        go_upto_region 29 with fail
        go_wp2_with (first
          | (refine wpList_load_row rfl 88 (.tmp 15) rfl bx rfl 88 (rca x) (0, 0) _ RX.out Tryz.underlying88 rfl infoR ?_)
          | (refine kbuildOne KR okR #[Value.int IntKind.u64 0, Value.int IntKind.u64 0, Value.int IntKind.u64 0, Value.int IntKind.u64 0, Value.int IntKind.u64 0, Value.int IntKind.u64 0, Value.int IntKind.u64 0, Value.int IntKind.u64 0, Value.int IntKind.u64 0, Value.int IntKind.u64 0, Value.int IntKind.u64 0, Value.int IntKind.u64 0, Value.int IntKind.u64 0, Value.int IntKind.u64 0, Value.int IntKind.u64 0, Value.int IntKind.u64 0, Value.int IntKind.u64 0, Value.int IntKind.u64 0, Value.int IntKind.u64 0, Value.int IntKind.u64 0, Value.int IntKind.u64 0, Value.int IntKind.u64 0, Value.int IntKind.u64 0, Value.int IntKind.u64 0, Value.int IntKind.i64 0, Value.slice none 0 0, Value.int IntKind.i64 0, Value.int IntKind.i64 0, Value.int IntKind.i64 0, Value.int IntKind.i64 0, Value.int IntKind.i64 0, Value.int IntKind.i64 0] zeroR rfl (.tmp 126) rfl (rca x) rfl (by decide) (fillOne _) ?_)
          | (refine kappend KR okR rfl _ _ rfl w3.heap.size _ L [x] rfl HO2.out _ rfl HK2.out HB2.out.size (by simp; omega) (fun v' w' ho hg => ?_); refine Hid.out ?_))
        have HO4 := Lib.hid ho
        have HB4 := Lib.hid (kbelowOwn HB2.out HO2.out (Nat.le_refl _) hg)
        clear ho hg HO2 HB2 HK2 HO1 HB1 RX
        refine Lib.hid ?_
        go_wp2_with fail
        go_roundg (l.length - (r + 1))
        case measure => omega
        case rel => exact ⟨r + 1, _, by omega, by go_num, HFl.out ▸ HKT.out, HO4.out, fun z hz => (List.mem_append.1 hz).elim (HIA.out z) fun h => by simp only [List.mem_cons, List.not_mem_nil, or_false] at h; subst h; exact HXA.out, HUN.out, HB4.out⟩
    · rw [htc] at HST
      have HF := Lib.hid (show fromH (tcS m) l r = r :: fromH (tcS m) l (r + 1) from HST.out)
      rw [HF.out] at HKT
      have HTT := Lib.hid (show tchB m.u x.u = true by rw [← HTc.out]; exact htc)
      have hfl := fromH_len (q := tcS m) (l := l) (r := r + 1)
      clear htc HST HF
      obtain ⟨Fl, hFl⟩ : ∃ Fl, Fl = fromH (tcS m) l (r + 1) := ⟨_, rfl⟩
      rw [← hFl] at HKT hfl
      have HFl := Lib.hid hFl
      clear hFl
      obtain ⟨pt, ct, e13⟩ := HKT.out.form
      obtain ⟨nt, hnt⟩ : ∃ nt, nt = (r :: Fl).length := ⟨_, rfl⟩
      rw [← hnt] at e13
      subst e13
      have hn0 : (0 : Int) < (nt : Int) := by rw [hnt]; simp
      have hn1 : 1 ≤ nt := by omega
      have HNT := Lib.hid hnt
      clear hnt
      obtain ⟨bt, ot, rfl, _⟩ := HKT.out.at (i := 0) (a := r) rfl
      have kt := (HKT.out.below okI HB1.out).cellI (i := 0) (x := r) rfl
      rw [Nat.add_zero] at kt
      have HKN := Lib.hid (show KLies KI (fromV 1 (some ⟨bt, ot, none⟩) nt ct 1) (fromH (tcS m) l (r + 1)) w3 by
        have h := HKT.out
        rw [HNT.out] at h ⊢
        have h2 := KLies.from (K := KI) h (c := 1) (by simp)
        rw [← HFl.out]
        exact h2)
      go_upto_region 27 with (refine wpFromI rfl _ _ rfl (some ⟨bt, ot, none⟩) nt ct 1 rfl rfl hn1 ?_)
      generalize fromV 1 (some ⟨bt, ot, none⟩) nt ct 1 = tv at *
      clear kt HKT HNT hn0 hn1
      obtain ⟨k0, _, _, k26, _⟩ := (HS3.out.2.2.1.below HB1.out).cellsM
      rcases HKs.out with hk1 | hk2 | hk3 | hk4 | hk5
      · exact absurd hk1 HK1.out
      · have h3d := eq_false0 (show m.u.kind ≠ 3 by omega)
        have h5d := eq_false0 (show m.u.kind ≠ 5 by omega)
        have HUN := Lib.hid (show (L ++ [(⟨{ x.u with acts := m.u.acts }, m.q, m.n, m.c⟩ : Rm)]).map (·.u) = otU m.u ((l.take (r + 1)).map (·.u)) by rw [HTK.out, otU_mod (by omega) HTT.out, List.map_append, HU.out]; rfl)
        clear hk2
        have HYA := Lib.hid (show FromA l m (⟨{ x.u with acts := m.u.acts }, m.q, m.n, m.c⟩ : Rm) from fun W _ h2 => h2)
        go_upto_region 28 with fail
        go_wp2_with (refine storeCell rfl 38 _ _ rfl bx 25 (.slice m.q m.n m.c) rfl rfl rfl (RX.out.there (by rw [rca_size]; decide)) infoActs ?_; refine Hid.out ?_)
        have RX2 := Lib.hid (RX.out.setA m.u.acts m.q m.n m.c)
        have HB3 := Lib.hid (HB1.out.setCell (p := ⟨bx, 25, none⟩) hbx (.slice m.q m.n m.c))
        have HO3 := HOS
        clear RX HB1 HO1 HOS k0 k26
        generalize W.setCell ⟨bx, 25, none⟩ (.slice m.q m.n m.c) = W2 at *
        generalize hyy : (⟨{ x.u with acts := m.u.acts }, m.q, m.n, m.c⟩ : Rm) = y at *
        refine Lib.hid ?_
        have HO2 := Lib.hid (HO3.out.below (below1 W2 (.cells (rca y) KR.T)))
        have HB2 := Lib.hid (HB3.out.trans ((below1 W2 (.cells (rca y) KR.T)).mono HB3.out.size))
        have HK2 := Lib.hid (Blk.klies (K := KR) (l := [y]) (Blk.new W2 (rca y) KR.T) okR (by simp [Kd.flat, rca]))
        go_upto_region 29 with fail
        go_wp2_with (first
          | (refine wpList_load_row rfl 88 (.tmp 15) rfl bx rfl 88 (rca y) (0, 0) _ RX2.out Tryz.underlying88 rfl infoR ?_)
          | (refine kbuildOne KR okR #[Value.int IntKind.u64 0, Value.int IntKind.u64 0, Value.int IntKind.u64 0, Value.int IntKind.u64 0, Value.int IntKind.u64 0, Value.int IntKind.u64 0, Value.int IntKind.u64 0, Value.int IntKind.u64 0, Value.int IntKind.u64 0, Value.int IntKind.u64 0, Value.int IntKind.u64 0, Value.int IntKind.u64 0, Value.int IntKind.u64 0, Value.int IntKind.u64 0, Value.int IntKind.u64 0, Value.int IntKind.u64 0, Value.int IntKind.u64 0, Value.int IntKind.u64 0, Value.int IntKind.u64 0, Value.int IntKind.u64 0, Value.int IntKind.u64 0, Value.int IntKind.u64 0, Value.int IntKind.u64 0, Value.int IntKind.u64 0, Value.int IntKind.i64 0, Value.slice none 0 0, Value.int IntKind.i64 0, Value.int IntKind.i64 0, Value.int IntKind.i64 0, Value.int IntKind.i64 0, Value.int IntKind.i64 0, Value.int IntKind.i64 0] zeroR rfl (.tmp 126) rfl (rca y) rfl (by decide) (fillOne _) ?_)
          | (refine kappend KR okR rfl _ _ rfl w3.heap.size _ L [y] rfl HO2.out _ rfl HK2.out HB2.out.size (by simp; omega) (fun v' w' ho hg => ?_); refine Hid.out ?_))
        have HO4 := Lib.hid ho
        have HB4 := Lib.hid (kbelowOwn HB2.out HO2.out (Nat.le_refl _) hg)
        clear ho hg HO2 HB2 HK2 HO3 HB3 RX2
        refine Lib.hid ?_
        go_wp2_with fail
        go_roundg (l.length - (r + 1))
        case measure => omega
        case rel => exact ⟨r + 1, _, by omega, by go_num, HKN.out, HO4.out, fun z hz => (List.mem_append.1 hz).elim (HIA.out z) fun h => by simp only [List.mem_cons, List.not_mem_nil, or_false] at h; subst h; exact HYA.out, HUN.out, HB4.out⟩
      · have h3d := eq_true0 hk3
        have h5d := eq_false0 (show m.u.kind ≠ 5 by omega)
        have HUN := Lib.hid (show L.map (·.u) = otU m.u ((l.take (r + 1)).map (·.u)) by rw [HTK.out, otU_del (by omega) HTT.out, HU.out])
        clear hk3
        go_wp2_with fail
        go_roundg (l.length - (r + 1))
        case measure => omega
        case rel => exact ⟨r + 1, L, by omega, by go_num, HKN.out, HO1.out, HIA.out, HUN.out, HB1.out⟩
      · have h3d := eq_false0 (show m.u.kind ≠ 3 by omega)
        have h5d := eq_false0 (show m.u.kind ≠ 5 by omega)
        have HUN := Lib.hid (show (L ++ [(⟨{ x.u with acts := m.u.acts }, m.q, m.n, m.c⟩ : Rm)]).map (·.u) = otU m.u ((l.take (r + 1)).map (·.u)) by rw [HTK.out, otU_mod (by omega) HTT.out, List.map_append, HU.out]; rfl)
        clear hk4
        have HYA := Lib.hid (show FromA l m (⟨{ x.u with acts := m.u.acts }, m.q, m.n, m.c⟩ : Rm) from fun W _ h2 => h2)
        go_upto_region 28 with fail
        go_wp2_with (refine storeCell rfl 38 _ _ rfl bx 25 (.slice m.q m.n m.c) rfl rfl rfl (RX.out.there (by rw [rca_size]; decide)) infoActs ?_; refine Hid.out ?_)
        have RX2 := Lib.hid (RX.out.setA m.u.acts m.q m.n m.c)
        have HB3 := Lib.hid (HB1.out.setCell (p := ⟨bx, 25, none⟩) hbx (.slice m.q m.n m.c))
        have HO3 := HOS
        clear RX HB1 HO1 HOS k0 k26
        generalize W.setCell ⟨bx, 25, none⟩ (.slice m.q m.n m.c) = W2 at *
        generalize hyy : (⟨{ x.u with acts := m.u.acts }, m.q, m.n, m.c⟩ : Rm) = y at *
        refine Lib.hid ?_
        have HO2 := Lib.hid (HO3.out.below (below1 W2 (.cells (rca y) KR.T)))
        have HB2 := Lib.hid (HB3.out.trans ((below1 W2 (.cells (rca y) KR.T)).mono HB3.out.size))
        have HK2 := Lib.hid (Blk.klies (K := KR) (l := [y]) (Blk.new W2 (rca y) KR.T) okR (by simp [Kd.flat, rca]))
        go_upto_region 29 with fail
        go_wp2_with (first
          | (refine wpList_load_row rfl 88 (.tmp 15) rfl bx rfl 88 (rca y) (0, 0) _ RX2.out Tryz.underlying88 rfl infoR ?_)
          | (refine kbuildOne KR okR #[Value.int IntKind.u64 0, Value.int IntKind.u64 0, Value.int IntKind.u64 0, Value.int IntKind.u64 0, Value.int IntKind.u64 0, Value.int IntKind.u64 0, Value.int IntKind.u64 0, Value.int IntKind.u64 0, Value.int IntKind.u64 0, Value.int IntKind.u64 0, Value.int IntKind.u64 0, Value.int IntKind.u64 0, Value.int IntKind.u64 0, Value.int IntKind.u64 0, Value.int IntKind.u64 0, Value.int IntKind.u64 0, Value.int IntKind.u64 0, Value.int IntKind.u64 0, Value.int IntKind.u64 0, Value.int IntKind.u64 0, Value.int IntKind.u64 0, Value.int IntKind.u64 0, Value.int IntKind.u64 0, Value.int IntKind.u64 0, Value.int IntKind.i64 0, Value.slice none 0 0, Value.int IntKind.i64 0, Value.int IntKind.i64 0, Value.int IntKind.i64 0, Value.int IntKind.i64 0, Value.int IntKind.i64 0, Value.int IntKind.i64 0] zeroR rfl (.tmp 126) rfl (rca y) rfl (by decide) (fillOne _) ?_)
          | (refine kappend KR okR rfl _ _ rfl w3.heap.size _ L [y] rfl HO2.out _ rfl HK2.out HB2.out.size (by simp; omega) (fun v' w' ho hg => ?_); refine Hid.out ?_))
        have HO4 := Lib.hid ho
        have HB4 := Lib.hid (kbelowOwn HB2.out HO2.out (Nat.le_refl _) hg)
        clear ho hg HO2 HB2 HK2 HO3 HB3 RX2
        refine Lib.hid ?_
        go_wp2_with fail
        go_roundg (l.length - (r + 1))
        case measure => omega
        case rel => exact ⟨r + 1, _, by omega, by go_num, HKN.out, HO4.out, fun z hz => (List.mem_append.1 hz).elim (HIA.out z) fun h => by simp only [List.mem_cons, List.not_mem_nil, or_false] at h; subst h; exact HYA.out, HUN.out, HB4.out⟩
      · have h3d := eq_false0 (show m.u.kind ≠ 3 by omega)
        have h5d := eq_true0 hk5
        have HUN := Lib.hid (show L.map (·.u) = otU m.u ((l.take (r + 1)).map (·.u)) by rw [HTK.out, otU_del (by omega) HTT.out, HU.out])
        clear hk5
        go_wp2_with fail
        go_roundg (l.length - (r + 1))
        case measure => omega
        case rel => exact ⟨r + 1, L, by omega, by go_num, HKN.out, HO1.out, HIA.out, HUN.out, HB1.out⟩
end Go.Proofs.YtomnpfbebimpkaaGreatDoor
