/- Several of my texts as one: UniMath, UniTwoM, UniSnd. -/
import Derived.Test.YtomnpfbebimpkaaGreatDoorModTwo
import Derived.Test.YtomnpfbebimpkaaGreatDoorLapLaw
import Derived.Test.YtomnpfbebimpkaaGreatDoorPackCodM
/-
  What a unit is, and what becomes of it: no word of any program.
-/
namespace Go.Proofs.YtomnpfbebimpkaaGreatDoor
set_option maxRecDepth 20000

/-- an open transaction -/
structure Tx where
  id : Int
  list : List Mu
  ref : Bool
/-- a unit -/
structure Un where
  room : Int
  base : List Ru
  opn : List Tx
  fail : Bool
def bigI : Int := 9223372036854775807
/-- one change laid, if it may be -/
def lay1 (us : List Ru) (m : Mu) : List Ru := if applyE us m bigI = 0 then applyL us m else us
/-- changes laid, one by one -/
def layL (us : List Ru) (ms : List Mu) : List Ru := ms.foldl lay1 us
/-- all changes of open transactions -/
def chgO (o : List Tx) : List Mu := o.flatMap (·.list)
def viewO (us : List Ru) (o : List Tx) : List Ru := layL us (chgO o)
def Un.view (s : Un) : List Ru := viewO s.base s.opn
section
variable {us : List Ru} {m : Mu} {ms ns : List Mu}
theorem layL_cons (us : List Ru) (m : Mu) (ms : List Mu) : layL us (m :: ms) = layL (lay1 us m) ms := rfl
theorem layL_append (us : List Ru) (ms ns : List Mu) : layL us (ms ++ ns) = layL (layL us ms) ns := by unfold layL; rw [List.foldl_append]
theorem layL_snoc (us : List Ru) (ms : List Mu) (m : Mu) : layL us (ms ++ [m]) = lay1 (layL us ms) m := by rw [layL_append]; rfl
theorem lay1_len (us : List Ru) (m : Mu) : (lay1 us m).length ≤ us.length + 1 := by
  unfold lay1
  split
  · exact (apply_len us m).1
  · omega
theorem layL_len : ∀ (ms : List Mu) (us : List Ru), (layL us ms).length ≤ us.length + ms.length
  | [], us => Nat.le_refl _
  | m :: ms, us => by
    rw [layL_cons]
    have h1 := layL_len ms (lay1 us m)
    have h2 := lay1_len us m
    rw [List.length_cons]
    omega
def WfMUL (ms : List Mu) : Prop := ∀ m ∈ ms, WfM m
theorem lay1_wf (hu : WfUL us) (hm : WfM m) : WfUL (lay1 us m) := by
  unfold lay1
  split
  · exact wf_apply hu hm
  · exact hu
theorem layL_wf : ∀ {ms : List Mu} {us : List Ru}, WfUL us → WfMUL ms → WfUL (layL us ms)
  | [], _, hu, _ => hu
  | m :: ms, us, hu, hm => by
    rw [layL_cons]
    exact layL_wf (lay1_wf hu (hm m (by simp))) fun x hx => hm x (by simp [hx])
theorem lay1_tab (h : tabU us = true) : tabU (lay1 us m) = true := by
  unfold lay1
  split
  · rename_i e
    exact apply_tab e
  · exact h
theorem layL_tab : ∀ {ms : List Mu} {us : List Ru}, tabU us = true → tabU (layL us ms) = true
  | [], _, h => h
  | m :: ms, us, h => by
    rw [layL_cons]
    exact layL_tab (lay1_tab h)
/-- how much room there is counts for a full table alone -/
theorem applyE_room {r1 r2 : Int} (h1 : (us.length : Int) < r1) (h2 : (us.length : Int) < r2) : applyE us m r1 = applyE us m r2 := by
  unfold applyE
  rw [show decide (r1 ≤ (us.length : Int)) = false by simp; omega, show decide (r2 ≤ (us.length : Int)) = false by simp; omega]
theorem chgO_append (o k : List Tx) : chgO (o ++ k) = chgO o ++ chgO k := by simp [chgO]
theorem chgO_cons (t : Tx) (o : List Tx) : chgO (t :: o) = t.list ++ chgO o := rfl
end
/-! ### keys -/
def kyU (m : Mu) : Ru := ⟨m.m, m.p, [], 0, 0, 0, 0, 0, 0⟩
def kyR (u : Ru) : Ru := ⟨u.m, u.p, [], 0, 0, 0, 0, 0, 0⟩
def hasK (ks : List Ru) (r : Ru) : Bool := ks.any fun k => keyB k r
/-- a key more, if it isn't there -/
def addK (ks : List Ru) (r : Ru) : List Ru := if hasK ks r then ks else ks ++ [r]
def addsK (ks rs : List Ru) : List Ru := rs.foldl addK ks
/-- the keys of Adds -/
def addL (ms : List Mu) : List Ru := (ms.filter fun m => decide (m.kind = 1)).map kyU
/-- all keys -/
def keysU (us : List Ru) (ms : List Mu) : List Ru := addsK us (addL ms)
theorem hasK_map (ks : List Ru) (r : Ru) : hasK (ks.map kyR) r = hasK ks r := by
  unfold hasK
  rw [List.any_map]
  rfl
theorem addK_map (ks : List Ru) (r : Ru) : (addK ks r).map kyR = addK (ks.map kyR) (kyR r) := by
  have e : hasK (ks.map kyR) (kyR r) = hasK ks r := hasK_map ks r
  unfold addK
  rw [e]
  split
  · rfl
  · rw [List.map_append]; rfl
theorem addsK_map : ∀ (rs ks : List Ru), (addsK ks rs).map kyR = addsK (ks.map kyR) (rs.map kyR)
  | [], _ => rfl
  | r :: rs, ks => by
    show (addsK (addK ks r) rs).map kyR = addsK (addK (ks.map kyR) (kyR r)) (rs.map kyR)
    rw [addsK_map rs, addK_map]
theorem addsK_append (ks a b : List Ru) : addsK ks (a ++ b) = addsK (addsK ks a) b := by unfold addsK; rw [List.foldl_append]
/-- keys that differ, one by one -/
def Dist (ks : List Ru) : Prop := ks.Pairwise fun a b => keyB a b = false
theorem addsK_dist : ∀ (rs ks : List Ru), Dist (ks ++ rs) → addsK ks rs = ks ++ rs
  | [], ks, _ => by simp [addsK]
  | r :: rs, ks, h => by
    have h1 : hasK ks r = false := by
      unfold hasK
      rw [List.any_eq_false]
      intro k hk
      unfold Dist at h
      rw [List.pairwise_append] at h
      have := h.2.2 k hk r (by simp)
      rw [this]
      decide
    show addsK (addK ks r) rs = _
    have h2 : addK ks r = ks ++ [r] := by unfold addK; rw [h1]; rfl
    rw [h2, addsK_dist rs (ks ++ [r]) (by simpa using h)]
    simp
theorem tab_dist {us : List Ru} (h : tabU us = true) : Dist us := by
  have h2 := ((tabU_iff us).1 h).2
  unfold Srt at h2
  unfold Dist
  refine h2.imp fun {a b} hab => ?_
  rw [key_ord]
  simp
  omega
theorem Dist.map {us : List Ru} (h : Dist us) : Dist (us.map kyR) := by
  unfold Dist at *
  rw [List.pairwise_map]
  exact h
/-- counted from nothing, or from the base -/
theorem keys_count {us : List Ru} (h : tabU us = true) (ms : List Mu) : (addsK [] (us.map kyR ++ addL ms)).length = (keysU us ms).length := by
  have e : addsK [] (us.map kyR) = us.map kyR := by
    have := addsK_dist (us.map kyR) [] (by simpa using (tab_dist h).map)
    simpa using this
  have e2 : (addL ms).map kyR = addL ms := by unfold addL; rw [List.map_map]; rfl
  rw [addsK_append, e]
  unfold keysU
  have := addsK_map (addL ms) us
  rw [e2] at this
  rw [← this, List.length_map]
/-! ### messages and changes -/
/-- the place of a transaction, or the one behind all -/
def plO (o : List Tx) (t : Int) : Nat := (o.findIdx? fun x => x.id == t).getD o.length
/-- a transaction opened, if it isn't open -/
def opnO (o : List Tx) (t : Int) : List Tx := if plO o t < o.length then o else o ++ [⟨t, [], false⟩]
def nTx : Tx := ⟨0, [], false⟩
def txO (o : List Tx) (i : Nat) : Tx := (o[i]?).getD nTx
/-- the error of a change that is judged -/
def judE (room : Int) (us : List Ru) (o : List Tx) (m : Mu) : Int :=
  if applyE (viewO us o) m bigI ≠ 0 then applyE (viewO us o) m bigI
  else if m.kind = 1 ∧ room < ((keysU us (chgO o ++ [m])).length : Int) then 3 else 0
def chgE (s : Un) (t : Int) (m : Mu) : Int :=
  if (txO (opnO s.opn t) (plO s.opn t)).ref then 0 else if s.fail then 16 else judE s.room s.base (opnO s.opn t) m
def Tx.push (x : Tx) (m : Mu) : Tx := ⟨x.id, x.list ++ [m], x.ref⟩
def Tx.no (x : Tx) : Tx := ⟨x.id, x.list, true⟩
def chgS (s : Un) (t : Int) (m : Mu) : Un :=
  if (txO (opnO s.opn t) (plO s.opn t)).ref then { s with opn := opnO s.opn t }
  else { s with opn := (opnO s.opn t).set (plO s.opn t) (if chgE s t m = 0 then (txO (opnO s.opn t) (plO s.opn t)).push m else (txO (opnO s.opn t) (plO s.opn t)).no), fail := false }
def errM (t e : Int) : Ms := ⟨6, t, e, zMu, 0, zHd, []⟩
def errL (t e : Int) : List Ms := if e = 0 then [] else [errM t e]
def endB (s : Un) (t : Int) : List Mu := if plO s.opn t < s.opn.length then (txO s.opn (plO s.opn t)).list else []
def endO (s : Un) (t : Int) : List Tx := s.opn.eraseIdx (plO s.opn t)
/-- a unit behind a message -/
def takeS (s : Un) (m : Ms) : Un :=
  if sndMs m = false then s
  else if m.kind = 1 then chgS s m.txn m.mod
  else if m.kind = 3 then { s with base := layL s.base (endB s m.txn), opn := endO s m.txn }
  else if m.kind = 4 then { s with opn := endO s m.txn }
  else s
/-- what it answers -/
def takeA (s : Un) (m : Ms) : List Ms :=
  if sndMs m = false then [errM m.txn 2]
  else if m.kind = 1 then errL m.txn (chgE s m.txn m.mod)
  else if m.kind = 2 then [⟨7, m.txn, 0, zMu, 0, zHd, []⟩]
  else if m.kind = 5 then [⟨10, m.txn, 0, zMu, 0, zHd, s.base⟩]
  else if m.kind = 3 ∨ m.kind = 4 then []
  else [errM m.txn 2]
/-! ### packets and moments -/
def fndU (h : Nat → Int) (us : List Ru) : Option Nat := us.findIdx? fun u => hasB u.m h
def inH (port : Int) (h : Nat → Int) : Nat → Int := upd h 0 port
def portB (port : Int) : Bool := decide (1 ≤ port) && decide (port ≤ 16)
def ruAt (us : List Ru) (i : Nat) : Ru := (us[i]?).getD zRu
def pktS (s : Un) (port : Int) (h : Nat → Int) : Un :=
  if portB port = false then s else match fndU (inH port h) s.base with
    | some i => { s with base := hitL i s.base }
    | none => s
def pktL (s : Un) (port : Int) (h : Nat → Int) : List Sn :=
  if portB port = false then [] else match fndU (inH port h) s.view with
    | some i => runV (ruAt s.view i).acts (inH port h)
    | none => []
def pktT (s : Un) (port : Int) (h : Nat → Int) : Bool := match fndU (inH port h) s.view with
  | some i => runB (ruAt s.view i).acts
  | none => true
def pktA (s : Un) (port : Int) (h : Nat → Int) : List Ms := if portB port = false then [] else if pktT s port h then [⟨8, 0, 0, zMu, port, inH port h, []⟩] else []
/-- a hop: where it came in, the header, whether a rule was met, its Prio, its match -/
structure Hp where
  port : Int
  head : Nat → Int
  hit : Bool
  prio : Int
  m : Nat → Int
def zHp : Hp := ⟨0, zHd, false, 0, fun _ => 0⟩
def pktH (s : Un) (port : Int) (h : Nat → Int) : Hp :=
  if portB port = false then zHp else match fndU (inH port h) s.view with
    | some i => ⟨port, inH port h, true, (ruAt s.view i).p, (ruAt s.view i).m⟩
    | none => ⟨port, inH port h, false, 0, fun _ => 0⟩
def tickS (s : Un) (n : Int) : Un := { s with base := leftL (clampN n) s.base }
def tickA (s : Un) (n : Int) : List Ms := (goneL (clampN n) s.base).map fun u => ⟨9, 0, 0, zMu, 0, zHd, [u]⟩
/-! ### what stays -/
/-- a unit that is not too large -/
structure Fit (n : Nat) (s : Un) : Prop where
  base : WfUL s.base
  chg : WfMUL (chgO s.opn)
  ids : (s.opn.map (·.id)).Nodup
  size : s.base.length + (chgO s.opn).length ≤ n
  opn : s.opn.length ≤ n
  tab : tabU s.base = true
  snd : ∀ m ∈ chgO s.opn, sndM m = true
section
variable {o : List Tx} {t : Int} {s : Un} {n : Nat}
theorem plO_lt {i : Nat} (h : plO o t = i) (hi : i < o.length) : ∃ x, o[i]? = some x ∧ x.id = t := by
  unfold plO at h
  cases hf : o.findIdx? fun x => x.id == t with
  | none => rw [hf] at h; simp at h; omega
  | some k =>
    rw [hf] at h
    simp at h
    subst h
    rw [List.findIdx?_eq_some_iff_getElem] at hf
    obtain ⟨hk, h1, _⟩ := hf
    exact ⟨o[k], List.getElem?_eq_getElem hk, by simpa using h1⟩
theorem plO_le (o : List Tx) (t : Int) : plO o t ≤ o.length := by
  unfold plO
  cases hf : o.findIdx? fun x => x.id == t with
  | none => simp
  | some k =>
    rw [List.findIdx?_eq_some_iff_getElem] at hf
    obtain ⟨hk, _⟩ := hf
    simp
    omega
theorem plO_none (h : ¬ plO o t < o.length) : ∀ x ∈ o, x.id ≠ t := by
  unfold plO at h
  cases hf : o.findIdx? fun x => x.id == t with
  | none =>
    rw [List.findIdx?_eq_none_iff] at hf
    intro x hx
    simpa using hf x hx
  | some k =>
    rw [hf] at h
    rw [List.findIdx?_eq_some_iff_getElem] at hf
    obtain ⟨hk, _⟩ := hf
    simp at h
    omega
theorem plO_opn (o : List Tx) (t : Int) : plO o t < (opnO o t).length := by
  unfold opnO
  split
  · assumption
  · have := plO_le o t
    rw [List.length_append, List.length_singleton]
    omega
theorem opnO_at (o : List Tx) (t : Int) : (opnO o t)[plO o t]? = some (txO (opnO o t) (plO o t)) := by
  unfold txO
  rw [List.getElem?_eq_getElem (plO_opn o t)]
  rfl
theorem chg_opn (o : List Tx) (t : Int) : chgO (opnO o t) = chgO o := by
  unfold opnO
  split
  · rfl
  · rw [chgO_append]; simp [chgO]
theorem opn_len (o : List Tx) (t : Int) : (opnO o t).length ≤ o.length + 1 := by
  unfold opnO
  split
  · omega
  · rw [List.length_append, List.length_singleton]; exact Nat.le_refl _
theorem opn_ids (h : (o.map (·.id)).Nodup) (t : Int) : ((opnO o t).map (·.id)).Nodup := by
  unfold opnO
  split
  · exact h
  · rename_i hn
    have := plO_none hn
    rw [List.map_append, List.nodup_append]
    refine ⟨h, by simp, fun a ha b hb => ?_⟩
    simp at hb
    subst hb
    obtain ⟨x, hx, rfl⟩ := List.mem_map.1 ha
    exact this x hx
/-- one transaction changed -/
theorem chg_set_mem : ∀ {o : List Tx} {i : Nat} {x y : Tx}, o[i]? = some x → ∀ m, m ∈ chgO (o.set i y) → m ∈ chgO o ∨ m ∈ y.list
  | [], _, _, _, h, _, _ => by simp at h
  | z :: o, 0, _, _, _, _, hm => by
    rw [List.set_cons_zero, chgO_cons] at hm
    rw [chgO_cons]
    rcases List.mem_append.1 hm with q | q
    · exact .inr q
    · exact .inl (by simp [q])
  | z :: o, i + 1, x, y, h, m, hm => by
    rw [List.set_cons_succ, chgO_cons] at hm
    rw [chgO_cons]
    rcases List.mem_append.1 hm with q | q
    · exact .inl (by simp [q])
    · rcases chg_set_mem (o := o) (by simpa using h) m q with q | q
      · exact .inl (by simp [q])
      · exact .inr q
theorem chg_set_len : ∀ {o : List Tx} {i : Nat} {x y : Tx}, o[i]? = some x → (chgO (o.set i y)).length + x.list.length = (chgO o).length + y.list.length
  | [], i, x, y, h => by simp at h
  | z :: o, 0, x, y, h => by
    simp at h
    subst h
    rw [List.set_cons_zero, chgO_cons, chgO_cons, List.length_append, List.length_append]
    omega
  | z :: o, i + 1, x, y, h => by
    have := chg_set_len (o := o) (i := i) (x := x) (y := y) (by simpa using h)
    rw [List.set_cons_succ, chgO_cons, chgO_cons, List.length_append, List.length_append]
    omega
theorem chg_get {x : Tx} {i : Nat} (h : o[i]? = some x) : ∀ m ∈ x.list, m ∈ chgO o := fun _ hm => List.mem_flatMap.2 ⟨x, List.mem_of_getElem? h, hm⟩
theorem chg_erase (o : List Tx) (i : Nat) : ∀ m, m ∈ chgO (o.eraseIdx i) → m ∈ chgO o := fun m hm => by
  obtain ⟨x, hx, h⟩ := List.mem_flatMap.1 hm
  exact List.mem_flatMap.2 ⟨x, List.mem_of_mem_eraseIdx hx, h⟩
theorem chg_erase_len : ∀ {o : List Tx} {i : Nat} {x : Tx}, o[i]? = some x → (chgO (o.eraseIdx i)).length + x.list.length = (chgO o).length
  | [], i, x, h => by simp at h
  | z :: o, 0, x, h => by
    simp at h
    subst h
    rw [List.eraseIdx_cons_zero, chgO_cons, List.length_append]
    omega
  | z :: o, i + 1, x, h => by
    have := chg_erase_len (o := o) (i := i) (x := x) (by simpa using h)
    rw [List.eraseIdx_cons_succ, chgO_cons, chgO_cons, List.length_append, List.length_append]
    omega
theorem ids_set {i : Nat} {x y : Tx} (h : (o.map (·.id)).Nodup) (hx : o[i]? = some x) (e : y.id = x.id) : ((o.set i y).map (·.id)).Nodup := by
  rw [List.map_set, e]
  have : (o.map (·.id)).set i x.id = o.map (·.id) := by
    have hx' : (o.map (·.id))[i]? = some x.id := by rw [List.getElem?_map, hx]; rfl
    apply List.ext_getElem?
    intro j
    by_cases ej : i = j
    · subst ej
      rw [List.getElem?_set_self (List.getElem?_eq_some_iff.1 hx').1, hx']
    · rw [List.getElem?_set_ne ej]
  rw [this]
  exact h
theorem ids_erase (h : (o.map (·.id)).Nodup) (i : Nat) : ((o.eraseIdx i).map (·.id)).Nodup := by
  exact List.Nodup.sublist (List.Sublist.map _ (List.eraseIdx_sublist o i)) h
theorem Fit.mono {k : Nat} (h : Fit n s) (hk : n ≤ k) : Fit k s := ⟨h.base, h.chg, h.ids, by have := h.size; omega, by have := h.opn; omega, h.tab, h.snd⟩
theorem Fit.view (h : Fit n s) : WfUL s.view := layL_wf h.base h.chg
theorem Fit.view_len (h : Fit n s) : s.view.length ≤ n := by
  have h1 := layL_len (chgO s.opn) s.base
  have h2 := h.size
  show (layL s.base (chgO s.opn)).length ≤ n
  omega
theorem Fit.opened (h : Fit n s) (t : Int) : Fit (n + 1) { s with opn := opnO s.opn t } := by
  refine ⟨h.base, ?_, opn_ids h.ids t, ?_, ?_, h.tab, ?_⟩
  · show WfMUL (chgO (opnO s.opn t)); rw [chg_opn]; exact h.chg
  · show s.base.length + (chgO (opnO s.opn t)).length ≤ n + 1; rw [chg_opn]; have := h.size; omega
  · have := opn_len s.opn t; have := h.opn; show (opnO s.opn t).length ≤ n + 1; omega
  · show ∀ m ∈ chgO (opnO s.opn t), sndM m = true; rw [chg_opn]; exact h.snd
theorem Fit.failed (h : Fit n s) (b : Bool) : Fit n { s with fail := b } := ⟨h.base, h.chg, h.ids, h.size, h.opn, h.tab, h.snd⟩
theorem Fit.set (h : Fit n s) {i : Nat} {x y : Tx} (hx : s.opn[i]? = some x) (e : y.id = x.id) {k : Nat} (hl : y.list.length ≤ x.list.length + k) (hw : WfMUL y.list) (hs : ∀ m ∈ y.list, sndM m = true) : Fit (n + k) { s with opn := s.opn.set i y } := by
  refine ⟨h.base, fun m hm => ?_, ids_set h.ids hx e, ?_, ?_, h.tab, fun m hm => ?_⟩
  · rcases chg_set_mem hx m hm with q | q
    · exact h.chg m q
    · exact hw m q
  · have := chg_set_len (y := y) hx; have := h.size; show s.base.length + (chgO (s.opn.set i y)).length ≤ n + k; omega
  · have := h.opn; show (s.opn.set i y).length ≤ n + k; rw [List.length_set]; omega
  · rcases chg_set_mem hx m hm with q | q
    · exact h.snd m q
    · exact hs m q
theorem Fit.change (h : Fit n s) {m : Mu} (hm : WfM m) (hs : sndM m = true) (t : Int) : Fit (n + 2) (chgS s t m) := by
  have h1 := h.opened t
  unfold chgS
  split
  · exact h1.mono (by omega)
  · have hx := opnO_at s.opn t
    have hw : WfMUL (txO (opnO s.opn t) (plO s.opn t)).list := fun k hk => h1.chg k (chg_get hx k hk)
    have hsx : ∀ k ∈ (txO (opnO s.opn t) (plO s.opn t)).list, sndM k = true := fun k hk => h1.snd k (chg_get hx k hk)
    refine Fit.failed (s := { s with opn := (opnO s.opn t).set (plO s.opn t) (if chgE s t m = 0 then (txO (opnO s.opn t) (plO s.opn t)).push m else (txO (opnO s.opn t) (plO s.opn t)).no) }) ?_ false
    refine Fit.set (s := { s with opn := opnO s.opn t }) (k := 1) h1 hx ?_ ?_ ?_ ?_
    · split <;> rfl
    · split
      · simp [Tx.push]
      · simp [Tx.no]
    · split
      · intro k hk
        rcases List.mem_append.1 (show k ∈ _ ++ [m] from hk) with q | q
        · exact hw k q
        · simp at q; subst q; exact hm
      · exact hw
    · split
      · intro k hk
        rcases List.mem_append.1 (show k ∈ _ ++ [m] from hk) with q | q
        · exact hsx k q
        · simp at q; subst q; exact hs
      · exact hsx
theorem endB_mem (s : Un) (t : Int) : ∀ m ∈ endB s t, m ∈ chgO s.opn := by
  unfold endB
  split
  · rename_i h
    obtain ⟨x, hx, _⟩ := plO_lt rfl h
    intro m hm
    unfold txO at hm
    rw [hx] at hm
    exact chg_get hx m hm
  · intro m hm; cases hm
theorem end_len (s : Un) (t : Int) : (endB s t).length + (chgO (endO s t)).length = (chgO s.opn).length := by
  unfold endB endO
  split
  · rename_i h
    obtain ⟨x, hx, _⟩ := plO_lt rfl h
    have := chg_erase_len hx
    unfold txO
    rw [hx]
    show x.list.length + _ = _
    omega
  · rename_i h
    rw [List.eraseIdx_of_length_le (by omega)]
    simp
theorem Fit.undone (h : Fit n s) (t : Int) : Fit n { s with opn := endO s t } := by
  have h2 := end_len s t
  refine ⟨h.base, fun m hm => h.chg m (chg_erase _ _ m hm), ids_erase h.ids _, ?_, ?_, h.tab, fun m hm => h.snd m (chg_erase _ _ m hm)⟩
  · have := h.size; show s.base.length + (chgO (endO s t)).length ≤ n; omega
  · have := h.opn
    have h3 := List.length_eraseIdx_le s.opn (plO s.opn t)
    show (s.opn.eraseIdx _).length ≤ n
    omega
theorem Fit.committed (h : Fit n s) (t : Int) : Fit n { s with base := layL s.base (endB s t), opn := endO s t } := by
  have h1 := h.undone t
  have h2 := end_len s t
  have h3 := layL_len (endB s t) s.base
  refine ⟨layL_wf h.base fun m hm => h.chg m (endB_mem s t m hm), h1.chg, h1.ids, ?_, h1.opn, layL_tab h.tab, h1.snd⟩
  have := h.size
  show (layL s.base (endB s t)).length + (chgO (endO s t)).length ≤ n
  omega
theorem Fit.take (h : Fit n s) {m : Ms} (hm : WfMs m) : Fit (n + 2) (takeS s m) := by
  unfold takeS
  split
  · exact h.mono (by omega)
  rename_i hs
  split
  · rename_i hk
    have hsm : sndM m.mod = true := by
      have hs' : sndMs m = true := by simpa using hs
      unfold sndMs at hs'
      rw [if_pos hk] at hs'
      simp only [Bool.and_eq_true] at hs'
      exact hs'.2.1
    exact h.change hm.mod hsm m.txn
  split
  · exact (h.committed m.txn).mono (by omega)
  split
  · exact (h.undone m.txn).mono (by omega)
  · exact h.mono (by omega)
theorem hit_len (i : Int) (us : List Ru) : (hitL i us).length = us.length := by
  unfold hitL
  split
  · rw [List.length_modify]
  · rfl
end
end Go.Proofs.YtomnpfbebimpkaaGreatDoor

/-
  Changes sent in a transaction; two transactions with nothing in common: no word of any program.
-/
namespace Go.Proofs.YtomnpfbebimpkaaGreatDoor
set_option maxRecDepth 20000

section
variable {us : List Ru} {m n : Mu} {u z : Ru}
theorem met_sub {a b x : Nat → Int} (wx : Wf x) (wa : Wf a) (wb : Wf b) (h : metB a b = false) (hi : inB x a = true) : metB x b = false := by
  cases hx : metB x b
  · rfl
  · obtain ⟨_, sa, ea⟩ := (in_iff wx wa).1 hi
    obtain ⟨_, sb, eb⟩ := (met_iff wx wb).1 hx
    have : metB a b = true := (met_iff wa wb).2 ⟨sa, sb, fun j hj i ha hb => by
      obtain ⟨e1, e2⟩ := ea j hj i ha
      rw [← eb j hj i e1 hb, e2]⟩
    rw [h] at this
    cases this
theorem any_apart (P : Ru → Bool) (hc : ∀ a b : Ru, a.m = b.m → a.p = b.p → a.owner = b.owner → P a = P b) (ht : tabU us = true) (sm : sndM m = true) (hn : P (newU m) = false) (ha : ∀ u ∈ us, affB m u = true → P u = false) :
    (applyL us m).any P = us.any P := by
  rw [Bool.eq_iff_iff, List.any_eq_true, List.any_eq_true]
  constructor
  · rintro ⟨z, hz, hp⟩
    rcases (apply_mem ht sm).1 hz with ⟨_, rfl⟩ | ⟨u, hu, hf⟩
    · rw [hn] at hp; cases hp
    · obtain ⟨k1, k2, k3⟩ := fate_keys hf
      exact ⟨u, hu, by rw [← hc z u k1 k2 k3]; exact hp⟩
  · rintro ⟨u, hu, hp⟩
    refine ⟨u, (apply_mem ht sm).2 (.inr ⟨u, hu, ?_⟩), hp⟩
    unfold fateB
    rw [if_neg]
    intro hq
    rw [ha u hu hq] at hp
    cases hp
theorem met_key {a b : Ru} (wa : Wf a.m) (wb : Wf b.m) (sa : csnd a.m = true) (sb : csnd b.m = true) (h : metB a.m b.m = false) : keyB a b = false := by
  cases hk : keyB a b
  · rfl
  · have := in_meets wa wb sa sb hk
    rw [h] at this
    cases this
where
  in_meets (wa : Wf a.m) (wb : Wf b.m) (sa : csnd a.m = true) (sb : csnd b.m = true) (hk : keyB a b = true) : metB a.m b.m = true := by
    have e := (cEq_iff a.m b.m).1 (keyB_p hk).2
    refine (met_iff wa wb).2 ⟨sa, sb, fun j hj i _ _ => ?_⟩
    unfold bitAt
    rw [e j (by omega)]
theorem apE_apart {ra rb : Int} (he : applyE us m ra = 0) (wu : WfUL us) (wm : Wf m.m) (wn : Wf n.m) (h : metB m.m n.m = false) (hl : (us.length : Int) + 1 < rb) : applyE (applyL us m) n rb = applyE us n rb := by
  obtain ⟨ht, sm⟩ := apply_ok he
  have hta := apply_tab he
  have h1 := ((tabU_iff us).1 ht).1
  cases sn : sndM n
  · unfold applyE
    rw [if_pos (by simp [sn]), if_pos (by simp [sn])]
  have hun : ∀ u ∈ us, affB m u = true → metB u.m n.m = false := fun u hu ha => met_sub (wu u hu).m wm wn h (aff_in (wu u hu).m wm (snd_m (h1 u hu)) (snd_cube sm) ha)
  have hlen := (apply_len us m).1
  have e7 : (applyL us m).any (fun u => keyB u (newU n) && (u.owner != n.owner)) = us.any fun u => keyB u (newU n) && (u.owner != n.owner) := by
    refine any_apart _ (fun a b k1 k2 k3 => by rw [key_congr k1 k2 rfl rfl, k3]) ht sm ?_ fun u hu ha => ?_
    · have : keyB (newU m) (newU n) = false := met_key (a := newU m) (b := newU n) wm wn (snd_cube sm) (snd_cube sn) h
      simp [this]
    · have : keyB u (newU n) = false := met_key (a := u) (b := newU n) (wu u hu).m wn (snd_m (h1 u hu)) (snd_cube sn) (hun u hu ha)
      simp [this]
  have e6 : (applyL us m).any (fun u => !keyB u (newU n) && ovB u (newU n)) = us.any fun u => !keyB u (newU n) && ovB u (newU n) := by
    refine any_apart _ (fun a b k1 k2 k3 => by rw [key_congr k1 k2 rfl rfl]; unfold ovB; rw [k1, k2]) ht sm ?_ fun u hu ha => ?_
    · have : ovB (newU m) (newU n) = false := by unfold ovB newU; rw [h]; rfl
      simp [this]
    · have : ovB u (newU n) = false := by unfold ovB; rw [show (newU n).m = n.m from rfl, hun u hu ha]; rfl
      simp [this]
  unfold applyE
  have q1 : ¬ (tabU (applyL us m) && sndM n) = false := by simp [hta, sn]
  have q2 : ¬ (tabU us && sndM n) = false := by simp [ht, sn]
  rw [if_neg q1, if_neg q2, e7, e6]
  have d1 : decide (rb ≤ ((applyL us m).length : Int)) = false := decide_eq_false (by omega)
  have d2 : decide (rb ≤ (us.length : Int)) = false := decide_eq_false (by omega)
  rw [d1, d2]
  simp
theorem layE1 (wu : WfUL us) (wm : Wf m.m) (wn : Wf n.m) (h : metB m.m n.m = false) (hl : us.length ≤ 10000) : applyE (lay1 us m) n bigI = applyE us n bigI := by
  unfold lay1
  split
  · rename_i he
    exact apE_apart he wu wm wn h (by unfold bigI; omega)
  · rfl
theorem lay1_comm (ht : tabU us = true) (wu : WfUL us) (wm : WfM m) (wn : WfM n) (h : metB m.m n.m = false) (hl : us.length ≤ 10000) : lay1 (lay1 us m) n = lay1 (lay1 us n) m := by
  have h' : metB n.m m.m = false := by rw [met_comm wn.m wm.m]; exact h
  have e1 := layE1 wu wm.m wn.m h hl
  have e2 := layE1 wu wn.m wm.m h' hl
  by_cases ha : applyE us m bigI = 0 <;> by_cases hb : applyE us n bigI = 0
  · have l1 : lay1 us m = applyL us m := if_pos ha
    have l2 : lay1 us n = applyL us n := if_pos hb
    rw [l1] at e1
    rw [l2] at e2
    rw [l1, l2]
    unfold lay1
    rw [if_pos (e1.trans hb), if_pos (e2.trans ha)]
    exact apart_same ht (apply_tab ha) (apply_tab hb) (apply_tab (e1.trans hb)) (apply_tab (e2.trans ha)) wu wm.m wn.m (apply_ok ha).2 (apply_ok hb).2 h
  · have l2 : lay1 us n = us := if_neg hb
    rw [l2]
    rw [show lay1 (lay1 us m) n = lay1 us m from if_neg (by rw [e1]; exact hb)]
  · have l1 : lay1 us m = us := if_neg ha
    rw [l1]
    rw [show lay1 (lay1 us n) m = lay1 us n from if_neg (by rw [e2]; exact ha)]
  · have l1 : lay1 us m = us := if_neg ha
    have l2 : lay1 us n = us := if_neg hb
    rw [l1, l2, l1]
end
/-- nothing in common -/
def Dsj (L K : List Mu) : Prop := ∀ a ∈ L, ∀ b ∈ K, metB a.m b.m = false
theorem layL_E : ∀ (L : List Mu) (us : List Ru) (n : Mu), WfUL us → WfMUL L → WfM n → (∀ a ∈ L, metB a.m n.m = false) → us.length + L.length ≤ 10000 → applyE (layL us L) n bigI = applyE us n bigI
  | [], _, _, _, _, _, _, _ => rfl
  | m :: L, us, n, wu, wl, wn, hd, hl => by
    have hll : us.length + (L.length + 1) ≤ 10000 := hl
    rw [layL_cons, layL_E L (lay1 us m) n (lay1_wf wu (wl m (by simp))) (fun a ha => wl a (by simp [ha])) wn (fun a ha => hd a (by simp [ha])) (by have := lay1_len us m; omega)]
    exact layE1 wu (wl m (by simp)).m wn.m (hd m (by simp)) (by omega)
theorem lay1_layL : ∀ (L : List Mu) (us : List Ru) (n : Mu), tabU us = true → WfUL us → WfMUL L → WfM n → (∀ a ∈ L, metB a.m n.m = false) → us.length + L.length ≤ 10000 → lay1 (layL us L) n = layL (lay1 us n) L
  | [], _, _, _, _, _, _, _, _ => rfl
  | m :: L, us, n, ht, wu, wl, wn, hd, hl => by
    have hll : us.length + (L.length + 1) ≤ 10000 := hl
    rw [layL_cons, layL_cons, lay1_layL L (lay1 us m) n (lay1_tab ht) (lay1_wf wu (wl m (by simp))) (fun a ha => wl a (by simp [ha])) wn (fun a ha => hd a (by simp [ha])) (by have := lay1_len us m; omega), lay1_comm ht wu (wl m (by simp)) wn (hd m (by simp)) (by omega)]
theorem layL_comm : ∀ (K L : List Mu) (us : List Ru), tabU us = true → WfUL us → WfMUL L → WfMUL K → Dsj L K → us.length + L.length + K.length ≤ 10000 → layL (layL us L) K = layL (layL us K) L
  | [], _, _, _, _, _, _, _, _ => rfl
  | n :: K, L, us, ht, wu, wl, wk, hd, hl => by
    have hll : us.length + L.length + (K.length + 1) ≤ 10000 := hl
    rw [layL_cons, layL_cons, lay1_layL L us n ht wu wl (wk n (by simp)) (fun a ha => hd a ha n (by simp)) (by omega)]
    exact layL_comm K L (lay1 us n) (lay1_tab ht) (lay1_wf wu (wk n (by simp))) wl (fun a ha => wk a (by simp [ha])) (fun a ha b hb => hd a ha b (by simp [hb])) (by have := lay1_len us n; omega)
/-- what is taken of changes, one by one; was one refused? -/
def accL (us : List Ru) : List Mu → List Mu × Bool
  | [] => ([], false)
  | m :: ms => if applyE us m bigI = 0 then (m :: (accL (lay1 us m) ms).1, (accL (lay1 us m) ms).2) else ([], true)
theorem accL_mem : ∀ (ms : List Mu) (us : List Ru), ∀ m ∈ (accL us ms).1, m ∈ ms
  | [], _, m, h => by unfold accL at h; exact h
  | a :: ms, us, m, h => by
    unfold accL at h
    split at h
    · rcases List.mem_cons.1 h with rfl | h
      · simp
      · exact List.mem_cons_of_mem _ (accL_mem ms _ m h)
    · cases h
theorem accL_len : ∀ (ms : List Mu) (us : List Ru), (accL us ms).1.length ≤ ms.length
  | [], _ => by unfold accL; exact Nat.le_refl _
  | a :: ms, us => by
    unfold accL
    split
    · have := accL_len ms (lay1 us a)
      simp only [List.length_cons]
      omega
    · simp
/-- .. does not hang on what has nothing in common with them -/
theorem accL_apart : ∀ (ms L : List Mu) (us : List Ru), tabU us = true → WfUL us → WfMUL L → WfMUL ms → Dsj L ms → us.length + L.length + ms.length ≤ 10000 → accL (layL us L) ms = accL us ms
  | [], _, _, _, _, _, _, _, _ => by unfold accL; rfl
  | m :: ms, L, us, ht, wu, wl, wk, hd, hl => by
    have hll : us.length + L.length + (ms.length + 1) ≤ 10000 := hl
    have e := layL_E L us m wu wl (wk m (by simp)) (fun a ha => hd a ha m (by simp)) (by omega)
    have e2 := lay1_layL L us m ht wu wl (wk m (by simp)) (fun a ha => hd a ha m (by simp)) (by omega)
    have e3 := accL_apart ms L (lay1 us m) (lay1_tab ht) (lay1_wf wu (wk m (by simp))) wl (fun a ha => wk a (by simp [ha])) (fun a ha b hb => hd a ha b (by simp [hb])) (by have := lay1_len us m; omega)
    unfold accL
    rw [e, e2, e3]
end Go.Proofs.YtomnpfbebimpkaaGreatDoor

/-
  Changes sent to a unit in a transaction, committed or undone; two transactions with nothing in common: no word of any program.
-/
namespace Go.Proofs.YtomnpfbebimpkaaGreatDoor
set_option maxRecDepth 20000

/-- a change sent; a transaction committed, undone -/
def modM (t : Int) (m : Mu) : Ms := ⟨1, t, 0, m, 0, zHd, []⟩
def endM (k t : Int) : Ms := ⟨k, t, 0, zMu, 0, zHd, []⟩
def sendS (s : Un) (t : Int) (ms : List Mu) : Un := ms.foldl (fun s m => takeS s (modM t m)) s
theorem sendS_nil (s : Un) (t : Int) : sendS s t [] = s := rfl
theorem sendS_cons (s : Un) (t : Int) (m : Mu) (ms : List Mu) : sendS s t (m :: ms) = sendS (takeS s (modM t m)) t ms := rfl
theorem sendS_snoc (s : Un) (t : Int) (ms : List Mu) (m : Mu) : sendS s t (ms ++ [m]) = takeS (sendS s t ms) (modM t m) := by unfold sendS; rw [List.foldl_append]; rfl
/-- a number that a transaction may have -/
def okT (t : Int) : Prop := 0 ≤ t ∧ t ≤ 4294967295
theorem zEqs : mEq zMu zMu = true ∧ hEq zHd zHd = true := ⟨by kernel_rfl, by kernel_rfl⟩
theorem snd_modM {t : Int} (ht : okT t) (m : Mu) : sndMs (modM t m) = sndM m := by
  unfold sndMs modM plainB
  simp [ht.1, ht.2, show hEq zHd zHd = true from zEqs.2]
theorem snd_endM {k t : Int} (ht : okT t) (hk : 2 ≤ k ∧ k ≤ 5) : sndMs (endM k t) = true := by
  unfold sndMs endM plainB
  have h1 : ¬ k = 1 := by omega
  have h6 : ¬ k = 6 := by omega
  have h8 : ¬ k = 8 := by omega
  have h9 : ¬ k = 9 := by omega
  have h10 : ¬ k = 10 := by omega
  have h7 : k ≤ 7 := by omega
  simp [ht.1, ht.2, h1, h6, h8, h9, h10, hk.1, h7, show hEq zHd zHd = true from zEqs.2, show mEq zMu zMu = true from zEqs.1]
theorem take_modM {t : Int} (ht : okT t) (s : Un) (m : Mu) : takeS s (modM t m) = if sndM m then chgS s t m else s := by
  unfold takeS
  rw [snd_modM ht]
  cases sndM m
  · rfl
  · rfl
theorem take_com {t : Int} (ht : okT t) (s : Un) : takeS s (endM 3 t) = { s with base := layL s.base (endB s t), opn := endO s t } := by
  unfold takeS
  rw [snd_endM ht (by omega)]
  rfl
theorem take_und {t : Int} (ht : okT t) (s : Un) : takeS s (endM 4 t) = { s with opn := endO s t } := by
  unfold takeS
  rw [snd_endM ht (by omega)]
  rfl
/-! ### how many keys -/
theorem addK_len (ks : List Ru) (r : Ru) : (addK ks r).length ≤ ks.length + 1 := by
  unfold addK
  split
  · omega
  · simp
theorem addsK_len : ∀ (rs ks : List Ru), (addsK ks rs).length ≤ ks.length + rs.length
  | [], _ => Nat.le_refl _
  | r :: rs, ks => by
    have h1 := addsK_len rs (addK ks r)
    have h2 := addK_len ks r
    show (addsK (addK ks r) rs).length ≤ _
    simp only [List.length_cons]
    omega
theorem keysU_len (us : List Ru) (ms : List Mu) : (keysU us ms).length ≤ us.length + ms.length := by
  have h1 := addsK_len (addL ms) us
  have h2 : (addL ms).length ≤ ms.length := by unfold addL; rw [List.length_map]; exact List.length_filter_le _ _
  unfold keysU
  omega
/-! ### a transaction behind others -/
/-- no such transaction -/
def noT (t : Int) (o : List Tx) : Prop := ∀ x ∈ o, x.id ≠ t
theorem pl_no {t : Int} {o : List Tx} (h : noT t o) : plO o t = o.length := by
  unfold plO
  rw [show (o.findIdx? fun x => x.id == t) = none from List.findIdx?_eq_none_iff.2 fun x hx => by simpa using h x hx]
  rfl
theorem pl_last {t : Int} {o : List Tx} (h : noT t o) (L : List Mu) (r : Bool) : plO (o ++ [⟨t, L, r⟩]) t = o.length := by
  unfold plO
  rw [List.findIdx?_append, show (o.findIdx? fun x => x.id == t) = none from List.findIdx?_eq_none_iff.2 fun x hx => by simpa using h x hx]
  simp
theorem view_last (us : List Ru) (o : List Tx) (t : Int) (L : List Mu) (r : Bool) : viewO us (o ++ [⟨t, L, r⟩]) = layL (viewO us o) L := by
  unfold viewO
  rw [chgO_append, layL_append]
  congr 1
  simp [chgO]
/-- one change more -/
theorem chg_last {R t : Int} {us : List Ru} {q o : List Tx} {L : List Mu} {r : Bool} (hp : plO q t = o.length) (hq : opnO q t = o ++ [⟨t, L, r⟩]) (m : Mu) (hR : ((us.length + (chgO o).length + L.length + 1 : Nat) : Int) ≤ R) :
    chgS ⟨R, us, q, false⟩ t m = ⟨R, us, o ++ [if r then ⟨t, L, r⟩ else if applyE (layL (viewO us o) L) m bigI = 0 then ⟨t, L ++ [m], false⟩ else ⟨t, L, true⟩], false⟩ := by
  have htx : txO (o ++ [⟨t, L, r⟩]) o.length = ⟨t, L, r⟩ := by unfold txO; rw [List.getElem?_append_right (Nat.le_refl _)]; simp
  have hj : judE R us (o ++ [⟨t, L, r⟩]) m = applyE (layL (viewO us o) L) m bigI := by
    unfold judE
    rw [view_last]
    by_cases he : applyE (layL (viewO us o) L) m bigI = 0
    · rw [if_neg (by simp [he]), if_neg, he]
      intro hh
      have h1 := keysU_len us (chgO (o ++ [⟨t, L, r⟩]) ++ [m])
      have h2 : (chgO (o ++ [⟨t, L, r⟩])).length = (chgO o).length + L.length := by rw [chgO_append, List.length_append]; congr 1; simp [chgO]
      rw [List.length_append, h2] at h1
      simp only [List.length_cons, List.length_nil] at h1
      omega
    · rw [if_pos he]
  have hset : ∀ y : Tx, (o ++ [(⟨t, L, r⟩ : Tx)]).set o.length y = o ++ [y] := fun y => by rw [List.set_append_right _ _ (Nat.le_refl _)]; simp
  unfold chgS chgE
  simp only [hp, hq, htx, hj, hset]
  cases r
  · simp only [Bool.false_eq_true, if_false]
    rfl
  · rfl
theorem send_last : ∀ (ms : List Mu) (R t : Int) (us : List Ru) (o : List Tx) (L : List Mu) (r : Bool), okT t → noT t o → ((us.length + (chgO o).length + L.length + ms.length : Nat) : Int) ≤ R →
    sendS ⟨R, us, o ++ [⟨t, L, r⟩], false⟩ t ms = ⟨R, us, o ++ [if r then ⟨t, L, r⟩ else ⟨t, L ++ (accL (layL (viewO us o) L) (ms.filter sndM)).1, (accL (layL (viewO us o) L) (ms.filter sndM)).2⟩], false⟩
  | [], R, t, us, o, L, r, _, _, _ => by
    rw [sendS_nil]
    cases r
    · simp [accL]
    · rfl
  | m :: ms, R, t, us, o, L, r, ht, ho, hR => by
    have hR' : ((us.length + (chgO o).length + L.length + (ms.length + 1) : Nat) : Int) ≤ R := hR
    rw [sendS_cons, take_modM ht]
    cases sm : sndM m
    · rw [if_neg (by decide), send_last ms R t us o L r ht ho (by omega), List.filter_cons_of_neg (by simp [sm])]
    · rw [if_pos rfl, chg_last (pl_last ho L r) (by unfold opnO; rw [pl_last ho L r, if_pos (by simp)]) m (by omega), List.filter_cons_of_pos sm]
      cases r
      · simp only [Bool.false_eq_true, if_false]
        by_cases he : applyE (layL (viewO us o) L) m bigI = 0
        · rw [if_pos he, send_last ms R t us o (L ++ [m]) false ht ho (by rw [List.length_append]; simp only [List.length_cons, List.length_nil]; omega)]
          simp only [Bool.false_eq_true, if_false]
          conv => rhs; unfold accL
          rw [if_pos he, layL_snoc]
          simp
        · rw [if_neg he, send_last ms R t us o L true ht ho (by omega)]
          conv => rhs; unfold accL
          rw [if_neg he]
          simp
      · simp only [if_true]
        rw [send_last ms R t us o L true ht ho (by omega)]
        rfl
/-- a transaction sent: open if a change was sound -/
def opA (t : Int) (us : List Ru) (fs : List Mu) : List Tx := if fs = [] then [] else [⟨t, (accL us fs).1, (accL us fs).2⟩]
theorem send_new : ∀ (ms : List Mu) (R t : Int) (us : List Ru) (o : List Tx), okT t → noT t o → ((us.length + (chgO o).length + ms.length : Nat) : Int) ≤ R →
    sendS ⟨R, us, o, false⟩ t ms = ⟨R, us, o ++ opA t (viewO us o) (ms.filter sndM), false⟩
  | [], R, t, us, o, _, _, _ => by
    rw [sendS_nil]
    simp [opA]
  | m :: ms, R, t, us, o, ht, ho, hR => by
    have hR' : ((us.length + (chgO o).length + (ms.length + 1) : Nat) : Int) ≤ R := hR
    rw [sendS_cons, take_modM ht]
    cases sm : sndM m
    · rw [if_neg (by decide), send_new ms R t us o ht ho (by omega), List.filter_cons_of_neg (by simp [sm])]
    · rw [if_pos rfl, chg_last (L := []) (r := false) (pl_no ho) (by unfold opnO; rw [pl_no ho, if_neg (Nat.lt_irrefl _)]) m (by simp only [List.length_nil]; omega), List.filter_cons_of_pos sm]
      unfold opA
      rw [if_neg (by simp)]
      simp only [List.nil_append]
      by_cases he : applyE (layL (viewO us o) []) m bigI = 0
      · rw [if_pos he, send_last ms R t us o [m] false ht ho (by simp only [List.length_cons, List.length_nil]; omega)]
        simp only [Bool.false_eq_true, if_false]
        conv => rhs; unfold accL
        rw [if_pos (show applyE (viewO us o) m bigI = 0 from he)]
        rfl
      · rw [if_neg he, send_last ms R t us o [] true ht ho (by simp only [List.length_nil]; omega)]
        conv => rhs; unfold accL
        rw [if_neg (show ¬ applyE (viewO us o) m bigI = 0 from he)]
        rfl
/-! ### two transactions -/
def s32 : Un := ⟨32, [], [], false⟩
theorem end_at {R t : Int} {us : List Ru} {o p : List Tx} {L : List Mu} {r : Bool} (ho : noT t o) : endB ⟨R, us, o ++ ⟨t, L, r⟩ :: p, false⟩ t = L ∧ endO ⟨R, us, o ++ ⟨t, L, r⟩ :: p, false⟩ t = o ++ p := by
  have hp : plO (o ++ ⟨t, L, r⟩ :: p) t = o.length := by
    unfold plO
    rw [List.findIdx?_append, show (o.findIdx? fun x => x.id == t) = none from List.findIdx?_eq_none_iff.2 fun x hx => by simpa using ho x hx]
    simp [List.findIdx?_cons]
  unfold endB endO
  rw [hp]
  constructor
  · rw [if_pos (by simp)]
    unfold txO
    rw [List.getElem?_append_right (Nat.le_refl _)]
    simp
  · rw [List.eraseIdx_append_of_length_le (Nat.le_refl _)]
    simp
theorem end_none {R t : Int} {us : List Ru} {o : List Tx} (ho : noT t o) : endB ⟨R, us, o, false⟩ t = [] ∧ endO ⟨R, us, o, false⟩ t = o := by
  unfold endB endO
  rw [pl_no ho]
  exact ⟨if_neg (Nat.lt_irrefl _), List.eraseIdx_of_length_le (Nat.le_refl _)⟩
theorem noT_op {t t' : Int} (h : t' ≠ t) (us : List Ru) (fs : List Mu) : noT t (opA t' us fs) := fun x hx => by
  unfold opA at hx
  split at hx
  · cases hx
  · simp only [List.mem_cons, List.not_mem_nil, or_false] at hx
    subst hx
    exact h
theorem op_com {R t : Int} {us vs : List Ru} {o p : List Tx} {fs : List Mu} (ht : okT t) (ho : noT t o) (hp : noT t p) : takeS ⟨R, us, o ++ (opA t vs fs ++ p), false⟩ (endM 3 t) = ⟨R, layL us (accL vs fs).1, o ++ p, false⟩ := by
  rw [take_com ht]
  unfold opA
  split
  · rename_i e
    subst e
    have hn : noT t (o ++ ([] ++ p)) := fun x hx => by
      rw [List.nil_append] at hx
      rcases List.mem_append.1 hx with q | q
      · exact ho x q
      · exact hp x q
    obtain ⟨e1, e2⟩ := end_none (R := R) (us := us) hn
    rw [e1, e2]
    rfl
  · obtain ⟨e1, e2⟩ := end_at (R := R) (us := us) (p := p) (L := (accL vs fs).1) (r := (accL vs fs).2) ho
    show Un.mk R (layL us (endB ⟨R, us, o ++ ⟨t, (accL vs fs).1, (accL vs fs).2⟩ :: p, false⟩ t)) (endO ⟨R, us, o ++ ⟨t, (accL vs fs).1, (accL vs fs).2⟩ :: p, false⟩ t) false = _
    rw [e1, e2]
theorem op_und {R t : Int} {us vs : List Ru} {o p : List Tx} {fs : List Mu} (ht : okT t) (ho : noT t o) (hp : noT t p) : takeS ⟨R, us, o ++ (opA t vs fs ++ p), false⟩ (endM 4 t) = ⟨R, us, o ++ p, false⟩ := by
  rw [take_und ht]
  unfold opA
  split
  · rename_i e
    subst e
    have hn : noT t (o ++ ([] ++ p)) := fun x hx => by
      rw [List.nil_append] at hx
      rcases List.mem_append.1 hx with q | q
      · exact ho x q
      · exact hp x q
    obtain ⟨e1, e2⟩ := end_none (R := R) (us := us) hn
    rw [e2]
    rfl
  · obtain ⟨e1, e2⟩ := end_at (R := R) (us := us) (p := p) (L := (accL vs fs).1) (r := (accL vs fs).2) ho
    show Un.mk R us (endO ⟨R, us, o ++ ⟨t, (accL vs fs).1, (accL vs fs).2⟩ :: p, false⟩ t) false = _
    rw [e2]
def fstT (order : Bool) : Int := if order then 2 else 1
def sndT (order : Bool) : Int := if order then 1 else 2
def kndT (undone : Bool) : Int := if undone then 4 else 3
/-- both open, one committed, the other committed or undone -/
def twoU (l k : List Mu) (order undone : Bool) : Un := takeS (takeS (sendS (sendS s32 1 l) 2 k) (endM 3 (fstT order))) (endM (kndT undone) (sndT order))
/-- one behind the other -/
def twoV (l k : List Mu) (c1 c2 : Bool) : Un := takeS (if c2 then sendS (takeS (if c1 then sendS s32 1 l else s32) (endM 3 1)) 2 k else takeS (if c1 then sendS s32 1 l else s32) (endM 3 1)) (endM 3 2)
theorem noT_nil (t : Int) : noT t [] := fun x hx => by cases hx
theorem ok1 : okT 1 := ⟨by decide, by decide⟩
theorem ok2 : okT 2 := ⟨by decide, by decide⟩
theorem filt_len (l : List Mu) : (l.filter sndM).length ≤ l.length := List.length_filter_le _ _
theorem two_both {l k : List Mu} (hl : l.length ≤ 8) (hk : k.length ≤ 8) : sendS (sendS s32 1 l) 2 k = ⟨32, [], opA 1 [] (l.filter sndM) ++ opA 2 (layL [] (accL [] (l.filter sndM)).1) (k.filter sndM), false⟩ := by
  unfold s32
  rw [send_new l 32 1 [] [] ok1 (noT_nil 1) (by simp only [chgO, List.flatMap_nil, List.length_nil]; omega), List.nil_append, show viewO [] ([] : List Tx) = [] from rfl]
  have hv : viewO [] (opA 1 [] (l.filter sndM)) = layL [] (accL [] (l.filter sndM)).1 := by
    unfold opA
    split
    · rename_i e; rw [e]; rfl
    · exact view_last [] [] 1 _ _
  have hc : (chgO (opA 1 [] (l.filter sndM))).length ≤ 8 := by
    have h1 := accL_len (l.filter sndM) []
    have h2 := filt_len l
    unfold opA
    split
    · decide
    · simp only [chgO, List.flatMap_cons, List.flatMap_nil, List.append_nil]; omega
  rw [send_new k 32 2 [] _ ok2 (noT_op (by decide) _ _) (by simp only [List.length_nil]; omega), hv]
theorem two_same {l k : List Mu} (hl : l.length ≤ 8) (hk : k.length ≤ 8) (wl : WfMUL l) (wk : WfMUL k) (hd : Dsj l k) (order undone : Bool) :
    (twoU l k order undone).base = (twoV l k (!order || !undone) (order || !undone)).base := by
  have wf : ∀ {ms : List Mu}, WfMUL ms → WfMUL (ms.filter sndM) := fun h m hm => h m (List.mem_filter.1 hm).1
  have hl' := filt_len l
  have hk' := filt_len k
  have hA := accL_len (l.filter sndM) []
  have hB := accL_len (k.filter sndM) []
  have dA : Dsj (accL [] (l.filter sndM)).1 (k.filter sndM) := fun a ha b hb => hd a (List.mem_filter.1 (accL_mem _ _ a ha)).1 b (List.mem_filter.1 hb).1
  have wA : WfMUL (accL [] (l.filter sndM)).1 := fun a ha => wf wl a (accL_mem _ _ a ha)
  have wB : WfMUL (accL [] (k.filter sndM)).1 := fun a ha => wf wk a (accL_mem _ _ a ha)
  have eB : accL (layL [] (accL [] (l.filter sndM)).1) (k.filter sndM) = accL [] (k.filter sndM) := accL_apart _ _ [] (by decide) (fun u hu => by cases hu) wA (wf wk) dA (by simp only [List.length_nil]; omega)
  have eC : layL (layL [] (accL [] (l.filter sndM)).1) (accL [] (k.filter sndM)).1 = layL (layL [] (accL [] (k.filter sndM)).1) (accL [] (l.filter sndM)).1 := layL_comm _ _ [] (by decide) (fun u hu => by cases hu) wA wB (fun a ha b hb => dA a ha b (accL_mem _ _ b hb)) (by simp only [List.length_nil]; omega)
  have vl : sendS s32 1 l = ⟨32, [], opA 1 [] (l.filter sndM), false⟩ := send_new l 32 1 [] [] ok1 (noT_nil 1) (by simp only [chgO, List.flatMap_nil, List.length_nil]; omega)
  have v1 : takeS (sendS s32 1 l) (endM 3 1) = ⟨32, layL [] (accL [] (l.filter sndM)).1, [], false⟩ := by
    rw [vl]
    have := op_com (R := 32) (us := []) (vs := []) (o := []) (p := []) (fs := l.filter sndM) ok1 (noT_nil 1) (noT_nil 1)
    rwa [List.nil_append, List.append_nil] at this
  have v1' : takeS s32 (endM 3 1) = s32 := by
    rw [take_com ok1]
    rfl
  have vk : ∀ us : List Ru, us.length ≤ 8 → sendS ⟨32, us, [], false⟩ 2 k = ⟨32, us, opA 2 us (k.filter sndM), false⟩ := fun us hu => send_new k 32 2 us [] ok2 (noT_nil 2) (by simp only [chgO, List.flatMap_nil, List.length_nil]; omega)
  have v2 : ∀ us vs : List Ru, takeS ⟨32, us, opA 2 vs (k.filter sndM), false⟩ (endM 3 2) = ⟨32, layL us (accL vs (k.filter sndM)).1, [], false⟩ := fun us vs => by
    have := op_com (R := 32) (us := us) (vs := vs) (o := []) (p := []) (fs := k.filter sndM) ok2 (noT_nil 2) (noT_nil 2)
    rwa [List.nil_append, List.append_nil] at this
  have v2' : ∀ us : List Ru, takeS ⟨32, us, [], false⟩ (endM 3 2) = ⟨32, us, [], false⟩ := fun us => by
    rw [take_com ok2]
    rfl
  have lA : (layL [] (accL [] (l.filter sndM)).1).length ≤ 8 := by have := layL_len (accL [] (l.filter sndM)).1 []; simp only [List.length_nil] at this; omega
  have hs32 : s32 = ⟨32, [], [], false⟩ := rfl
  have u1 := op_com (R := 32) (us := []) (vs := []) (o := []) (p := opA 2 (layL [] (accL [] (l.filter sndM)).1) (k.filter sndM)) (fs := l.filter sndM) ok1 (noT_nil 1) (noT_op (by decide) _ _)
  rw [List.nil_append, List.nil_append] at u1
  have u1b := op_und (R := 32) (us := layL [] (accL [] (l.filter sndM)).1) (vs := layL [] (accL [] (l.filter sndM)).1) (o := []) (p := []) (fs := k.filter sndM) ok2 (noT_nil 2) (noT_nil 2)
  rw [List.nil_append, List.append_nil] at u1b
  have u2 := op_com (R := 32) (us := []) (vs := layL [] (accL [] (l.filter sndM)).1) (o := opA 1 [] (l.filter sndM)) (p := []) (fs := k.filter sndM) ok2 (noT_op (by decide) _ _) (noT_nil 2)
  rw [List.append_nil, List.append_nil, eB] at u2
  have u2a := op_com (R := 32) (us := layL [] (accL [] (k.filter sndM)).1) (vs := []) (o := []) (p := []) (fs := l.filter sndM) ok1 (noT_nil 1) (noT_nil 1)
  rw [List.nil_append, List.append_nil] at u2a
  have u2b := op_und (R := 32) (us := layL [] (accL [] (k.filter sndM)).1) (vs := []) (o := []) (p := []) (fs := l.filter sndM) ok1 (noT_nil 1) (noT_nil 1)
  rw [List.nil_append, List.append_nil] at u2b
  unfold twoU twoV
  rw [two_both hl hk]
  generalize accL [] (l.filter sndM) = A at *
  generalize hq : accL [] (k.filter sndM) = B at *
  cases order <;> cases undone <;> simp only [fstT, sndT, kndT, Bool.not_false, Bool.not_true, Bool.or_true, Bool.or_false, if_true, if_false, Bool.false_eq_true]
  · rw [u1, v2, v1, vk _ lA, v2]
  · rw [u1, u1b, v1, v2']
  · rw [u2, u2a, v1, vk _ lA, v2, eB]
    exact eC.symm
  · rw [u2, u2b, v1', hs32, vk [] (by decide), v2, hq]
end Go.Proofs.YtomnpfbebimpkaaGreatDoor
