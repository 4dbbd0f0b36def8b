/-
  The walk of add of package mods.
-/
import Derived.Test.YtghfohglnbenaaaDoorModCat
import Derived.Test.YtghfohglnbenaaaDoorModDel
import Derived.Test.YtghfohglnbenaaaDoorModMdf
namespace Go.Proofs.YtghfohglnbenaaaDoor
set_option maxRecDepth 20000
open Go.RowKit

/-- slices of rules, as elements -/
abbrev KV : Kd (Option Addr × Nat × Nat) := ⟨22, 84, 1, 24, fun x => [.slice x.1 x.2.1 x.2.2]⟩
theorem okV : KV.Ok where
  pos := by decide
  len := fun _ => rfl
  one := fun a u hu => by
    simp only [List.mem_cons, List.not_mem_nil, or_false] at hu
    rw [hu]; rfl
  under := Tryd.underlying84
  info := infoOf (by kernel_rfl) (by kernel_rfl) (by kernel_rfl)
  small := by decide
  room1 := by decide
theorem zeroV : ((Tryd.prog.info? 22).bind (·.zero)).map (·.cells) = some #[Value.slice none 0 0] := by kernel_rfl
theorem fillV' (p1 : Option Addr) (n1 c1 : Nat) (p2 : Option Addr) (n2 c2 : Nat) : Instr.fill (fun i' => some (i' * 1, 1)) ((Array.range (2 * 1)).map ((#[Value.slice none 0 0] : Array Value)[· % (#[Value.slice none 0 0] : Array Value).size]!)) [(0, .slice p1 n1 c1), (1, .slice p2 n2 c2)] = some #[.slice p1 n1 c1, .slice p2 n2 c2] := by kernel_rfl
theorem kbuildV2 {ops : Array Oper} {rest : List Oper} {o : Oper} {a : Act} {w : World} {Q : Exit → Act → World → Prop} (hg : o.guard = none) (x y : Operand) (ho : o.op = .buildSlice 84 2 #[(0, x), (1, y)])
    (p1 : Option Addr) (n1 c1 : Nat) (p2 : Option Addr) (n2 c2 : Nat) (hx : a.eval x = .slice p1 n1 c1) (hy : a.eval y = .slice p2 n2 c2)
    (h : wpList Tryd.prog ops Q rest (a.put o.dst (.slice (some ⟨w.heap.size, 0, none⟩) 2 2)) (w.alloc (.cells #[.slice p1 n1 c1, .slice p2 n2 c2] KV.T))) : wpList Tryd.prog ops Q (o :: rest) a w :=
  kbuild KV okV 2 #[.slice none 0 0] zeroV hg _ ho [(0, .slice p1 n1 c1), (1, .slice p2 n2 c2)] (by simp [hx, hy]) #[.slice p1 n1 c1, .slice p2 n2 c2] (by decide) (by decide) (fillV' p1 n1 c1 p2 n2 c2) h
set_option maxHeartbeats 1000000 in
theorem fn50_any (n : Rm) (B : Nat) (r : Rm) (w : World) (hB : Blk B (rca n) 44 w) :
    Calls Tryd.prog 50 #[.agg (rca r), .pointer (some ⟨B, 0, none⟩)] w fun e w' => e = .returned (.bool (keyB r.u n.u)) ∧ Below w.heap.size w w' := by
  have RB := Lib.hid (hB.below (below1 w (.cells (rca r) 44)))
  have RR := Lib.hid (Blk.new w (rca r) 44)
  have HK := Lib.hid (key_any r n (w.alloc (.cells (rca r) 44)))
  have HB := Lib.hid (below1 w (.cells (rca r) 44))
  clear hB
  generalize keyB r.u n.u = y at *
  go_enter Tryd.func50, Tryd.ntmps50
  go_wp2_with (first
    | (refine wpList_load_row rfl 44 (.tmp 2) rfl w.heap.size rfl 44 (rca r) (0, 0) _ RR.out Tryd.underlying44 rfl infoR ?_)
    | (refine wpList_load_row rfl 44 (.tmp 1) rfl B rfl 44 (rca n) (0, 0) _ RB.out Tryd.underlying44 rfl infoR ?_)
    | (go_at_call 51; refine HK.out.mono ?_; rintro e w1 ⟨rfl, hw1⟩))
  go_ret
  exact ⟨rfl, HB.out.trans (hw1.mono HB.out.size)⟩
set_option maxHeartbeats 1000000 in
theorem fn53_any (n : Rm) (B : Nat) (r : Rm) (hn : Wf n.u.m) (hr : Wf r.u.m) (w : World) (hB : Blk B (rca n) 44 w) (ht : Tab w) (hz : 0 < w.heap.size) :
    Calls Tryd.prog 53 #[.agg (rca r), .pointer (some ⟨B, 0, none⟩)] w fun e w' => e = .returned (.bool (!keyB r.u n.u && ovB r.u n.u)) ∧ Below w.heap.size w w' := by
  have RB := Lib.hid (hB.below (below1 w (.cells (rca r) 44)))
  have RR := Lib.hid (Blk.new w (rca r) 44)
  have HE := Lib.hid ((Env.start ht hz).alloc (.cells (rca r) 44))
  have HK := Lib.hid (key_any r n (w.alloc (.cells (rca r) 44)))
  have HV := Lib.hid (fun (W : World) (hb : Env w W) => overlap_any r n hr hn W hb.tab hb.lt)
  clear hB ht hn hr
  generalize ovB r.u n.u = y at *
  cases hk : keyB r.u n.u
  · rw [hk] at HK
    go_enter Tryd.func53, Tryd.ntmps53
    go_wp2_with (first
      | (refine wpList_load_row rfl 44 (.tmp 2) rfl w.heap.size rfl 44 (rca r) (0, 0) _ RR.out Tryd.underlying44 rfl infoR ?_)
      | (refine wpList_load_row rfl 44 (.tmp 1) rfl B rfl 44 (rca n) (0, 0) _ RB.out Tryd.underlying44 rfl infoR ?_)
      | (go_at_call 51; refine HK.out.mono ?_; rintro e w1 ⟨rfl, hw1⟩; refine Hid.out ?_))
    have RB1 := Lib.hid (RB.out.below hw1)
    have RR1 := Lib.hid (RR.out.below hw1)
    have HE1 := Lib.hid (HE.out.below hw1)
    have HV1 := Lib.hid (HV.out w1 HE1.out)
    clear hw1 RB RR HE HK HV
    refine Lib.hid ?_
    go_wp2_with (first
      | (refine loadRowG rfl 44 (.tmp 2) rfl w.heap.size rfl 44 (rca r) (0, 0) RR1.out Tryd.underlying44 rfl infoR ?_)
      | (refine loadRowG rfl 44 (.tmp 1) rfl B rfl 44 (rca n) (0, 0) RB1.out Tryd.underlying44 rfl infoR ?_)
      | (go_at_call 54; refine HV1.out.mono ?_; rintro e w2 ⟨rfl, hw2⟩))
    go_ret
    exact ⟨rfl, (HE1.out.below hw2).kept⟩
  · rw [hk] at HK
    go_enter Tryd.func53, Tryd.ntmps53
    go_wp2_with (first
      | (refine wpList_load_row rfl 44 (.tmp 2) rfl w.heap.size rfl 44 (rca r) (0, 0) _ RR.out Tryd.underlying44 rfl infoR ?_)
      | (refine wpList_load_row rfl 44 (.tmp 1) rfl B rfl 44 (rca n) (0, 0) _ RB.out Tryd.underlying44 rfl infoR ?_)
      | (go_at_call 51; refine HK.out.mono ?_; rintro e w1 ⟨rfl, hw1⟩))
    go_ret
    exact ⟨rfl, (HE.out.below hw1).kept⟩
theorem en50 : ∀ args w, (callFunc 50 args).run Tryd.prog w = .ok (.enter 50 args) w := enters_of Tryd.func50 (by kernel_rfl) rfl
theorem en53 : ∀ args w, (callFunc 53 args).run Tryd.prog w = .ok (.enter 53 args) w := enters_of Tryd.func53 (by kernel_rfl) rfl
/-- the two conditions of add -/
def qKey (n : Ru) (r : Rm) : Bool := keyB r.u n
def qOv (n : Ru) (r : Rm) : Bool := !keyB r.u n && ovB r.u n
theorem pred50 {n : Rm} {B : Nat} {w : World} (hB : Blk B (rca n) 44 w) : KPred agR wfr 50 #[.pointer (some ⟨B, 0, none⟩)] (qKey n.u) w := fun W hb r _ => fn50_any n B r W (hB.below hb)
theorem pred53 {n : Rm} {B : Nat} {w : World} (hn : Wf n.u.m) (hB : Blk B (rca n) 44 w) (ht : Tab w) (hz : 0 < w.heap.size) : KPred agR wfr 53 #[.pointer (some ⟨B, 0, none⟩)] (qOv n.u) w := fun W hb r hr =>
  fn53_any n B r hn hr.m W (hB.below hb) ((Env.start ht hz).predK W hb).1 ((Env.start ht hz).predK W hb).2
/-- what Apply gives -/
def ApRet (w : World) (us : List Ru) (m : Mu) (room : Int) (e : Ending) (w' : World) : Prop := ∃ v L, e = .returned (.tuple #[v, .int .i64 (applyE us m room)]) ∧ L.map (·.u) = applyV us m room ∧ InS w v L w'
theorem ApRet.no {w w' : World} {us : List Ru} {m : Mu} {room : Int} {k : Int} (h : applyE us m room = k) (hk : k ≠ 0) (hb : Below w.heap.size w w') : ApRet w us m room (.returned (.tuple #[.slice none 0 0, .int .i64 k])) w' :=
  ⟨_, [], by rw [h], by unfold applyV; rw [if_neg (by rw [h]; exact hk)]; rfl, KOwns.nil _ _, fun y hy => (by cases hy), hb⟩
theorem ApRet.tab {w w' : World} {us : List Ru} {m : Mu} {room : Int} {g : Nat} {L : List Rm} (h : applyE us m room = 0) (hL : L.map (·.u) = applyL us m) (hc : CpS w.heap.size w g L.length L w') : ApRet w us m room (.returned (.tuple #[.slice (some ⟨g, 0, none⟩) L.length L.length, .int .i64 0])) w' :=
  ⟨_, L, by rw [h], by unfold applyV; rw [if_pos h, hL], KAt.owns okR hc.1 hc.2.2.2, fun y hy => (hc.2.1 y hy).mono (by have := hc.2.2.2; omega), hc.2.2.1⟩
theorem pw_all {α : Type} {R : α → α → Prop} (hs : ∀ a b, R a b → R b a) (hr : ∀ a, R a a) : ∀ {l : List α}, l.Pairwise R → ∀ a ∈ l, ∀ b ∈ l, R a b
  | [], _, a, ha, _, _ => by cases ha
  | x :: l, h, a, ha, b, hb => by
    have h' := List.pairwise_cons.1 h
    rcases List.mem_cons.1 ha with e1 | ha2
    · rcases List.mem_cons.1 hb with e2 | hb2
      · rw [e1, e2]; exact hr _
      · rw [e1]; exact h'.1 b hb2
    · rcases List.mem_cons.1 hb with e2 | hb2
      · rw [e2]; exact hs _ _ (h'.1 a ha2)
      · exact pw_all hs hr h'.2 a ha2 b hb2
/-- in a table one rule has a key -/
theorem key_one {us : List Ru} {n u v : Ru} (ht : tabU us = true) (hu : u ∈ us) (hv : v ∈ us) (h1 : keyB u n = true) (h2 : keyB v n = true) : u = v := by
  have hs := ((tabU_iff us).1 ht).2
  have key : ∀ a ∈ us, ∀ b ∈ us, (keyB a n = true → keyB b n = true → a = b) := by
    refine pw_all (R := fun a b => keyB a n = true → keyB b n = true → a = b) (fun a b h x y => (h y x).symm) (fun _ _ _ => rfl) (List.Pairwise.imp ?_ hs)
    intro a b hab ha hb
    exfalso
    have e1 := (key_iff a n).1 ha
    have e2 := (key_iff b n).1 hb
    have n2 := rOrd_ordd.neg b n
    have n1 := rOrd_ordd.neg a n
    have t2 := rOrd_ordd.trans b n a (by omega) (by omega)
    have n3 := rOrd_ordd.neg a b
    omega
  exact key u hu v hv h1 h2
theorem addE {us : List Ru} {m : Mu} {room : Int} (hk : m.kind = 1) (ht : tabU us = true) (hs : sndM m = true) : applyE us m room =
    (if us.any (fun u => keyB u (newU m) && (u.owner != m.owner)) then 7 else if m.chk && us.any (fun u => !keyB u (newU m) && ovB u (newU m)) then 6 else if !us.any (fun u => keyB u (newU m)) && decide (room ≤ (us.length : Int)) then 3 else 0) := by
  unfold applyE
  rw [if_neg (by simp [ht, hs]), if_pos hk]
/-- whose key is there -/
theorem any7_no {l : List Rm} {m : Mu} (h : ∀ x ∈ l, qKey (newU m) x = false) : (l.map (·.u)).any (fun u => keyB u (newU m) && (u.owner != m.owner)) = false ∧ (l.map (·.u)).any (fun u => keyB u (newU m)) = false := by
  constructor
  · rw [List.any_eq_false]
    intro u hu
    obtain ⟨x, hx, rfl⟩ := List.mem_map.1 hu
    have := h x hx
    unfold qKey at this
    rw [this]; simp
  · rw [List.any_eq_false]
    intro u hu
    obtain ⟨x, hx, rfl⟩ := List.mem_map.1 hu
    have := h x hx
    unfold qKey at this
    rw [this]; simp
theorem any7_yes {l : List Rm} {m : Mu} (ht : tabU (l.map (·.u)) = true) {x : Rm} (hx : x ∈ l) (h : qKey (newU m) x = true) : (l.map (·.u)).any (fun u => keyB u (newU m) && (u.owner != m.owner)) = (x.u.owner != m.owner) ∧ (l.map (·.u)).any (fun u => keyB u (newU m)) = true := by
  have hxm : x.u ∈ l.map (·.u) := List.mem_map_of_mem hx
  unfold qKey at h
  constructor
  · cases e : (x.u.owner != m.owner)
    · rw [List.any_eq_false]
      intro u hu hq
      rw [Bool.and_eq_true] at hq
      have := key_one ht hu hxm hq.1 h
      rw [this, e] at hq
      cases hq.2
    · rw [List.any_eq_true]
      exact ⟨x.u, hxm, by rw [h, e]; rfl⟩
  · rw [List.any_eq_true]
    exact ⟨x.u, hxm, h⟩
theorem any6 (l : List Rm) (m : Mu) : (l.map (·.u)).any (fun u => !keyB u (newU m) && ovB u (newU m)) = l.any (qOv (newU m)) := by
  rw [List.any_map]
  rfl
/-- add's end: the new rule behind the others, sorted -/
def AddS (w : World) (v : Value) (l : List Rm) (m : Mm) (Bn : Nat) (W : World) : Prop := RLies v l W ∧ InM m W ∧ Blk w.heap.size (mca m) 30 W ∧ Blk Bn (rca (newR m)) 44 W ∧ Env w W
theorem AddS.below {w : World} {v : Value} {l : List Rm} {m : Mm} {Bn : Nat} {W W' : World} (hb : Below W.heap.size W W') (h : AddS w v l m Bn W) : AddS w v l m Bn W' := ⟨h.1.below hb, h.2.1.below hb, h.2.2.1.below hb, h.2.2.2.1.below hb, h.2.2.2.2.below hb⟩
end Go.Proofs.YtghfohglnbenaaaDoor
