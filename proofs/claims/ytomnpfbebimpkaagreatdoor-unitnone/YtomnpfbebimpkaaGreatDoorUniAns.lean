/-
  The walk of the law's own look: a program that does nothing does not answer.
-/
import Derived.Test.YtomnpfbebimpkaaGreatDoorUniOpn
namespace Go.Proofs.YtomnpfbebimpkaaGreatDoor
set_option maxRecDepth 20000
open Go.RowKit

theorem i64s (n : Int) (h : -1000 ≤ n ∧ n ≤ 1000) : I64 n := ⟨by omega, by omega⟩
def acA : Ac := ⟨1, 2, 0, 0⟩
def muA : Mu := ⟨1, fun _ => 0, 5, [acA], 0, 0, 0, false⟩
def mmA (b : Nat) : Mm := ⟨muA, some ⟨b, 0, none⟩, 1, 1⟩
def gmA (b : Nat) : Gm := ⟨1, 1, 0, mmA b, 0, zHd, none, 0, 0, []⟩
def gmC : Gm := ⟨3, 1, 0, zMm, 0, zHd, none, 0, 0, []⟩
theorem sndA0 : sndM muA = true := by decide
theorem wfA0 : WfM muA := ⟨fun j => (⟨by decide, by decide⟩ : (0 : Int) ≤ 0 ∧ (0 : Int) < 18446744073709551616), fun a ha => by
  simp only [muA, List.mem_cons, List.not_mem_nil, or_false] at ha
  subst ha
  exact ⟨by decide, by decide⟩, (by decide : 1 * 32 ≤ 140737488355328), i64s 1 (by decide), i64s 5 (by decide), i640, i640, i640⟩
theorem wfZ0 : WfM zMu := ⟨fun j => (⟨by decide, by decide⟩ : (0 : Int) ≤ 0 ∧ (0 : Int) < 18446744073709551616), fun a ha => (by cases ha), (by decide : 0 * 32 ≤ 140737488355328), i640, i640, i640, i640, i640⟩
theorem wfHd0 : Wf zHd := fun j => (⟨by decide, by decide⟩ : (0 : Int) ≤ 0 ∧ (0 : Int) < 18446744073709551616)
theorem wfGA (b : Nat) : WfMs (gmA b).u := ⟨wfA0, wfHd0, fun u hu => (by cases hu)⟩
theorem wfGC : WfMs gmC.u := ⟨wfZ0, wfHd0, fun u hu => (by cases hu)⟩
theorem builtAc : Tryz.prog.built 83 [(0, .int .i64 1), (1, .int .i64 2)] = some (aca acA) := by kernel_rfl
theorem builtMA (b : Nat) : Tryz.prog.built 40 [(0, .int .i64 1), (2, .int .i64 5), (3, .slice (some ⟨b, 0, none⟩) 1 1)] = some (mca (mmA b)) := by kernel_rfl
theorem builtGA (b : Nat) : Tryz.prog.built 42 [(0, .int .i64 1), (1, .int .i64 1), (3, .agg (mca (mmA b)))] = some (gca (gmA b)) := by kernel_rfl
theorem builtGC : Tryz.prog.built 42 [(0, .int .i64 3), (1, .int .i64 1)] = some (gca gmC) := by kernel_rfl
theorem builtHd : Tryz.prog.built 35 [] = some (hc zHd) := by kernel_rfl
section
variable {ops : Array Oper} {rest : List Oper} {o : Oper} {a : Act} {w : World} {Q : Exit → Act → World → Prop}
/-- a struct built of two parts, of three -/
theorem wpBuilt2 {T : TypeId} {i j : Nat} {cs : Array Value} (hg : o.guard = none) (x y : Operand) (ho : o.op = .build T #[(i, x), (j, y)]) (vx vy : Value) (hb : Tryz.prog.built T [(i, vx), (j, vy)] = some cs) (hx : a.eval x = vx) (hy : a.eval y = vy)
    (k : wpList Tryz.prog ops Q rest (a.put o.dst (.agg cs)) w) : wpList Tryz.prog ops Q (o :: rest) a w := by
  have e : ((#[(i, x), (j, y)] : Array (Nat × Operand)).map fun (p : Nat × Operand) => (p.1, a.eval p.2)).toList = [(i, vx), (j, vy)] := by simp [hx, hy]
  have e' := congrArg (Tryz.prog.built T) e
  rw [hb] at e'
  refine wpList_build hg T _ ho (by rw [e']; rfl) ?_
  rw [e']
  exact k
theorem wpBuilt3 {T : TypeId} {i j l : Nat} {cs : Array Value} (hg : o.guard = none) (x y z : Operand) (ho : o.op = .build T #[(i, x), (j, y), (l, z)]) (vx vy vz : Value) (hb : Tryz.prog.built T [(i, vx), (j, vy), (l, vz)] = some cs) (hx : a.eval x = vx) (hy : a.eval y = vy) (hz : a.eval z = vz)
    (k : wpList Tryz.prog ops Q rest (a.put o.dst (.agg cs)) w) : wpList Tryz.prog ops Q (o :: rest) a w := by
  have e : ((#[(i, x), (j, y), (l, z)] : Array (Nat × Operand)).map fun (p : Nat × Operand) => (p.1, a.eval p.2)).toList = [(i, vx), (j, vy), (l, vz)] := by simp [hx, hy, hz]
  have e' := congrArg (Tryz.prog.built T) e
  rw [hb] at e'
  refine wpList_build hg T _ ho (by rw [e']; rfl) ?_
  rw [e']
  exact k
theorem wpBuilt0 {T : TypeId} {cs : Array Value} (hg : o.guard = none) (ho : o.op = .build T #[]) (hb : Tryz.prog.built T [] = some cs) (k : wpList Tryz.prog ops Q rest (a.put o.dst (.agg cs)) w) : wpList Tryz.prog ops Q (o :: rest) a w := by
  have e : ((#[] : Array (Nat × Operand)).map fun (p : Nat × Operand) => (p.1, a.eval p.2)).toList = [] := by simp
  have e' := congrArg (Tryz.prog.built T) e
  rw [hb] at e'
  refine wpList_build hg T _ ho (by rw [e']; rfl) ?_
  rw [e']
  exact k
end
/-! ### what the model says -/
def unA0 : Un := ⟨4, [], [], false⟩
def unA1 : Un := ⟨4, [], [⟨1, [muA], false⟩], false⟩
theorem tab00 : tabU [] = true := rfl
theorem appEA : applyE [] muA bigI = 0 := by unfold applyE; rw [tab00, sndA0]; rfl
theorem appLA : applyL [] muA = [newU muA] := by unfold applyL; rw [if_pos (show muA.kind = 1 from rfl), add_ins tab00 sndA0]; rfl
theorem layA : layL [] [muA] = [newU muA] := by
  show lay1 [] muA = _
  unfold lay1
  rw [if_pos appEA, appLA]
theorem sndGA (b : Nat) : sndMs (gmA b).u = true := by
  have h : sndMs (⟨1, 1, 0, muA, 0, zHd, []⟩ : Ms) = true := by decide
  exact h
theorem sndGC : sndMs gmC.u = true := by decide
theorem chgA : chgE unA0 1 muA = 0 := by
  have h1 : opnO unA0.opn 1 = [⟨1, [], false⟩] := rfl
  have h2 : plO unA0.opn 1 = 0 := by decide
  have h3 : txO [⟨1, [], false⟩] 0 = ⟨1, [], false⟩ := rfl
  have h4 : judE unA0.room unA0.base [⟨1, [], false⟩] muA = 0 := by
    have hv : viewO unA0.base [⟨1, [], false⟩] = [] := rfl
    unfold judE
    rw [hv, appEA, if_neg (by decide), if_neg]
    intro h
    have h5 : (keysU unA0.base (chgO [⟨1, [], false⟩] ++ [muA])).length = 1 := by decide
    rw [h5] at h
    exact absurd h.2 (by decide)
  unfold chgE
  rw [h1, h2, h3, h4]
  rfl
theorem chgSA : chgS unA0 1 muA = unA1 := by
  have h1 : opnO unA0.opn 1 = [⟨1, [], false⟩] := rfl
  have h2 : plO unA0.opn 1 = 0 := by decide
  have h3 : txO [⟨1, [], false⟩] 0 = ⟨1, [], false⟩ := rfl
  unfold chgS
  rw [chgA, h1, h2, h3]
  rfl
theorem takA1 (b : Nat) : takeA unA0 (gmA b).u = [] := by rw [takeA_mod (sndGA b) rfl, show (gmA b).u.txn = 1 from rfl, show (gmA b).u.mod = muA from rfl, chgA]; rfl
theorem takS1 (b : Nat) : takeS unA0 (gmA b).u = unA1 := by rw [takeS_mod (sndGA b) rfl, show (gmA b).u.txn = 1 from rfl, show (gmA b).u.mod = muA from rfl, chgSA]
theorem viewA : unA1.view = [newU muA] := layA
theorem fndA : fndU (inH 1 zHd) unA1.view = some 0 := by
  rw [viewA]
  unfold fndU
  rw [List.findIdx?_cons, show hasB (newU muA).m (inH 1 zHd) = true by show hasB (fun _ => 0) (inH 1 zHd) = true; decide]
  rfl
theorem ruA : ruAt unA1.view 0 = newU muA := by rw [viewA]; rfl
theorem pktLA : (pktL unA1 1 zHd).length = 1 := by
  unfold pktL
  rw [if_neg (by decide), fndA]
  show (runV (ruAt unA1.view 0).acts (inH 1 zHd)).length = 1
  rw [ruA]
  show (runV [acA] (inH 1 zHd)).length = 1
  unfold runV
  rw [if_pos (by decide)]
  rfl
theorem pktAA : pktA unA1 1 zHd = [] := by
  unfold pktA
  rw [if_neg (by decide), if_neg]
  unfold pktT
  rw [fndA]
  show ¬ runB (ruAt unA1.view 0).acts = true
  rw [ruA]
  show ¬ runB [acA] = true
  decide
theorem pktHA : (pktH unA1 1 zHd).hit = true := by
  unfold pktH
  rw [if_neg (by decide), fndA]
theorem pktSA : pktS unA1 1 zHd = unA1 := by
  unfold pktS
  rw [if_neg (by decide)]
  rfl
theorem takS2 : takeS unA1 gmC.u = ⟨4, [newU muA], [], false⟩ := by
  have h1 : endB unA1 1 = [muA] := by
    have h2 : plO unA1.opn 1 = 0 := by decide
    unfold endB
    rw [h2]
    rfl
  have h3 : endO unA1 1 = [] := by
    have h2 : plO unA1.opn 1 = 0 := by decide
    unfold endO
    rw [h2]
    rfl
  unfold takeS
  rw [if_neg (sndNot sndGC), if_neg (by decide), if_pos (by rfl), show gmC.u.txn = 1 from rfl, h1, h3, show unA1.base = [] from rfl, layA]
  rfl
theorem fitA0 (b : Nat) : FitM 0 (nilUm b 4) := ⟨⟨fun u hu => (by cases hu), fun u hu => (by cases hu), List.nodup_nil, Nat.le_refl _, Nat.le_refl _, rfl, fun u hu => (by cases hu)⟩, by decide⟩
theorem FitM.take {k : Nat} {x x' : Um} {m : Ms} (h : FitM k x) (hm : WfMs m) (hk : k + 2 ≤ 9000) (e : x'.un = takeS x.un m) : FitM (k + 2) x' := ⟨by rw [e]; exact h.fit.take hm, hk⟩
theorem FitM.same {k : Nat} {x x' : Um} (h : FitM k x) (e : x'.un = x.un) : FitM k x' := ⟨by rw [e]; exact h.fit, h.n⟩
theorem AnsL.form0 {B : Nat} {v : Value} {gs : List Gm} {W : World} (h : AnsL B v gs W) (e : gs.map (·.u) = []) : ∃ p c, v = .slice p 0 c := by
  have : gs = [] := by simpa using e
  subst this
  obtain ⟨p, c, e⟩ := h.1.form
  exact ⟨p, c, e⟩
set_option maxHeartbeats 2000000 in
set_option maxRecDepth 100000 in
theorem answers13 (w : World) (ht : Tab w) (hz : 0 < w.heap.size) :
    Calls Tryz.prog 11 #[] w fun e w' => e = .returned (.bool true) ∧ Below w.heap.size w w' := by
  have HT := Lib.hid ht
  have HZ := Lib.hid hz
  have HC := Lib.hid (un_new 4 w)
  clear ht
  go_enter Tryz.func11, Tryz.ntmps11
  go_wp2_with (go_at_call 10; refine HC.out.mono ?_; rintro e w1 ⟨rfl, hu, hb⟩; refine Hid.out ?_)
  have hU0 : UniA w.heap.size (nilUm w.heap.size 4) w1 := hu
  have HU1 := Lib.hid hU0
  have HB1 := Lib.hid hb
  clear hu hb hU0 HC
  have HBA := Lib.hid ((below1 w1 (.cells (aca acA) KA.T)).trans ((below1 (w1.alloc (.cells (aca acA) KA.T)) (.cells #[Value.int IntKind.i64 0, Value.int IntKind.u64 0, Value.int IntKind.u64 0, Value.int IntKind.u64 0, Value.int IntKind.u64 0, Value.int IntKind.u64 0, Value.int IntKind.u64 0, Value.int IntKind.u64 0, Value.int IntKind.u64 0, Value.int IntKind.u64 0, Value.int IntKind.u64 0, Value.int IntKind.u64 0, Value.int IntKind.u64 0, Value.int IntKind.u64 0, Value.int IntKind.u64 0, Value.int IntKind.u64 0, Value.int IntKind.u64 0, Value.int IntKind.u64 0, Value.int IntKind.u64 0, Value.int IntKind.u64 0, Value.int IntKind.u64 0, Value.int IntKind.u64 0, Value.int IntKind.u64 0, Value.int IntKind.u64 0, Value.int IntKind.u64 0, Value.int IntKind.i64 0, Value.slice none 0 0, Value.int IntKind.i64 0, Value.int IntKind.i64 0, Value.int IntKind.i64 0, Value.bool false] 40)).mono (below1 w1 _).size))
  have RM0 := Lib.hid (Blk.new2 w1 (.cells (aca acA) KA.T) #[Value.int IntKind.i64 0, Value.int IntKind.u64 0, Value.int IntKind.u64 0, Value.int IntKind.u64 0, Value.int IntKind.u64 0, Value.int IntKind.u64 0, Value.int IntKind.u64 0, Value.int IntKind.u64 0, Value.int IntKind.u64 0, Value.int IntKind.u64 0, Value.int IntKind.u64 0, Value.int IntKind.u64 0, Value.int IntKind.u64 0, Value.int IntKind.u64 0, Value.int IntKind.u64 0, Value.int IntKind.u64 0, Value.int IntKind.u64 0, Value.int IntKind.u64 0, Value.int IntKind.u64 0, Value.int IntKind.u64 0, Value.int IntKind.u64 0, Value.int IntKind.u64 0, Value.int IntKind.u64 0, Value.int IntKind.u64 0, Value.int IntKind.u64 0, Value.int IntKind.i64 0, Value.slice none 0 0, Value.int IntKind.i64 0, Value.int IntKind.i64 0, Value.int IntKind.i64 0, Value.bool false] 40)
  have RA0 := Lib.hid ((Blk.new w1 (aca acA) KA.T).below (below1 _ (.cells #[Value.int IntKind.i64 0, Value.int IntKind.u64 0, Value.int IntKind.u64 0, Value.int IntKind.u64 0, Value.int IntKind.u64 0, Value.int IntKind.u64 0, Value.int IntKind.u64 0, Value.int IntKind.u64 0, Value.int IntKind.u64 0, Value.int IntKind.u64 0, Value.int IntKind.u64 0, Value.int IntKind.u64 0, Value.int IntKind.u64 0, Value.int IntKind.u64 0, Value.int IntKind.u64 0, Value.int IntKind.u64 0, Value.int IntKind.u64 0, Value.int IntKind.u64 0, Value.int IntKind.u64 0, Value.int IntKind.u64 0, Value.int IntKind.u64 0, Value.int IntKind.u64 0, Value.int IntKind.u64 0, Value.int IntKind.u64 0, Value.int IntKind.u64 0, Value.int IntKind.i64 0, Value.slice none 0 0, Value.int IntKind.i64 0, Value.int IntKind.i64 0, Value.int IntKind.i64 0, Value.bool false] 40)))
  refine Lib.hid ?_
  go_upto_region 3 with (first
    | (refine wpBuilt2 rfl _ _ rfl _ _ builtAc rfl rfl ?_)
    | (refine kbuildOne KA okA zA zeroA rfl _ rfl (aca acA) rfl (by decide) (fillA acA) ?_)
    | (refine wpBuilt3 rfl _ _ _ rfl _ _ _ (builtMA w1.heap.size) rfl rfl rfl ?_)
    | (refine wpList_store_row rfl 40 _ _ rfl (w1.heap.size + 1) (mca (mmA w1.heap.size)) rfl rfl 40 _ RM0.out (by kernel_rfl) rfl (mca_one _) ?_; refine Hid.out ?_))
  obtain ⟨bA, hbA⟩ : ∃ bA, bA = w1.heap.size := ⟨_, rfl⟩
  rw [← hbA] at RM0 RA0 ⊢
  have HB2 := Lib.hid (below_setRow HBA.out (show w1.heap.size ≤ bA + 1 by omega) (mca (mmA bA)))
  have RM := Lib.hid (RM0.out.rset (mca (mmA bA)))
  have RA := Lib.hid ((setRow_other _ _ _ (mca (mmA bA)) (show bA ≠ bA + 1 by omega)).trans RA0.out)
  have HBG := Lib.hid (Nat.le_of_eq hbA.symm)
  clear hbA HBA RM0 RA0
  generalize ((w1.alloc (.cells (aca acA) KA.T)).alloc (.cells #[Value.int IntKind.i64 0, Value.int IntKind.u64 0, Value.int IntKind.u64 0, Value.int IntKind.u64 0, Value.int IntKind.u64 0, Value.int IntKind.u64 0, Value.int IntKind.u64 0, Value.int IntKind.u64 0, Value.int IntKind.u64 0, Value.int IntKind.u64 0, Value.int IntKind.u64 0, Value.int IntKind.u64 0, Value.int IntKind.u64 0, Value.int IntKind.u64 0, Value.int IntKind.u64 0, Value.int IntKind.u64 0, Value.int IntKind.u64 0, Value.int IntKind.u64 0, Value.int IntKind.u64 0, Value.int IntKind.u64 0, Value.int IntKind.u64 0, Value.int IntKind.u64 0, Value.int IntKind.u64 0, Value.int IntKind.u64 0, Value.int IntKind.u64 0, Value.int IntKind.i64 0, Value.slice none 0 0, Value.int IntKind.i64 0, Value.int IntKind.i64 0, Value.int IntKind.i64 0, Value.bool false] 40)).setRow (bA + 1) (mca (mmA bA)) = w2 at *
  have HU2 := Lib.hid (HU1.out.below HB2.out)
  have HOM := Lib.hid (show OwnM 0 (mmA bA) w2 from Blk.own (l := [acA]) okA RA.out (by simp [Kd.flat, aca, acl]) (by show 1 ≤ maxLen; unfold maxLen; decide) (Nat.zero_le _))
  have HT2 := Lib.hid (Env.at_ HT.out HZ.out (HB1.out.trans (HB2.out.mono HB1.out.size)) (Nat.le_refl _))
  have HTK := Lib.hid (un_take (nilUm w.heap.size 4) w.heap.size 0 (fitA0 _) (by decide) (gmA bA) (wfGA bA) w2 HU2.out ⟨HOM.out.inM, rlies_nil _⟩ (.inr HOM.out) HT2.out.1 HZ.out)
  clear RA HU1
  refine Lib.hid ?_
  go_wp2_with (first
    | (refine wpList_load_row rfl 40 _ rfl (bA + 1) rfl 40 (mca (mmA bA)) (0, 0) _ RM.out Tryz.underlying40 rfl infoMod ?_)
    | (refine wpBuilt3 rfl _ _ _ rfl _ _ _ (builtGA bA) rfl rfl rfl ?_)
    | (go_at_call 19; refine HTK.out.mono ?_; rintro e w3 ⟨x3, v3, g3, rfl, hg3, ha3, hun3, hu3, hp3, hf3⟩; refine Hid.out ?_))
  obtain ⟨p3, c3, e3⟩ := ha3.form0 (hg3.trans (takA1 bA))
  subst e3
  have hn3 : x3.un = unA1 := hun3.trans (takS1 bA)
  have HN3 := Lib.hid hn3
  have HU3 := Lib.hid hu3
  have HP3 := Lib.hid (show x3.p = w.heap.size from hp3)
  have HT3 := Lib.hid (hf3.env HU2.out HT2.out.1 HZ.out)
  have HB3 := Lib.hid (show Below w.heap.size w w3 from (HB1.out.trans (HB2.out.mono HB1.out.size)).trans (hf3.old HU2.out (Nat.le_trans HB1.out.size HB2.out.size) (Below.refl _ _)))
  have HF3 := Lib.hid ((fitA0 w.heap.size).take (wfGA bA) (by decide) hun3)
  have HPK := Lib.hid (un_pkt x3 w.heap.size 2 HF3.out 1 zHd wfHd0 w3 hu3 HT3.out.1 HZ.out)
  rw [HP3.out] at HPK
  clear hg3 ha3 hun3 hu3 hp3 hf3 hn3 HTK HU2 HT2 HOM RM HB1 HB2 HBG
  refine Lib.hid ?_
  go_wp2_with (first
    | (refine wpBuilt0 rfl rfl builtHd ?_)
    | (go_at_call 20; refine HPK.out.mono ?_; rintro e w4 ⟨x4, vs, va, g4, rfl, hks, hg4, ha4, hun4, hu4, hp4, hf4⟩; refine Hid.out ?_))
  rw [HN3.out] at hks hg4 hun4
  rw [pktAA] at hg4
  rw [pktSA] at hun4
  obtain ⟨p4, c4, e4⟩ := ha4.form0 hg4
  subst e4
  obtain ⟨ps, cs, es⟩ := hks.form
  rw [pktLA] at es
  subst es
  obtain ⟨HP, hHP⟩ : ∃ HP, HP = pktH x3.un 1 zHd := ⟨_, rfl⟩
  have HHP := Lib.hid (show HP.hit = true by rw [hHP, HN3.out]; exact pktHA)
  rw [← hHP]
  have HN4 := Lib.hid hun4
  have HU4 := Lib.hid hu4
  have HP4 := Lib.hid (hp4.trans HP3.out)
  have HT4 := Lib.hid (hf4.env HU3.out HT3.out.1 HZ.out)
  have HB4 := Lib.hid (show Below w.heap.size w w4 from HB3.out.trans (hf4.old HU3.out HB3.out.size (Below.refl _ _)))
  have HF4 := Lib.hid (HF3.out.same (hun4.trans HN3.out.symm))
  clear hHP hks hg4 ha4 hun4 hu4 hp4 hf4 HPK HU3 HT3 HB3
  have RH := Lib.hid (Blk.new w4 (hpa HP) 60)
  have HBH := Lib.hid (below1 w4 (.cells (hpa HP) 60))
  refine Lib.hid ?_
  go_upto_region 5 with (refine wpList_store_row rfl 60 _ _ rfl w4.heap.size (hpa HP) rfl rfl 60 _ (heap_alloc_new _ _) (by kernel_rfl) rfl (hpa_one _) ?_; rw [World.setRow_alloc_new])
  obtain ⟨bH, hbH⟩ : ∃ bH, bH = w4.heap.size := ⟨_, rfl⟩
  rw [← hbH] at RH ⊢
  have HNH := Lib.hid (show bH ∉ x4.muts from fun hm => by have := HU4.out.muts.lt _ hm; omega)
  clear hbH
  generalize hW5 : w4.alloc (.cells (hpa HP) 60) = w5 at *
  clear hW5
  have HU5 := Lib.hid (HU4.out.below HBH.out)
  have HT5 := Lib.hid (show Tab w5 ∧ 0 < w5.heap.size from ⟨HT4.out.1.below HT4.out.2 HBH.out, by have := HBH.out.size; have := HT4.out.2; omega⟩)
  have HB5 := Lib.hid (HB4.out.trans (HBH.out.mono HB4.out.size))
  have HTC := Lib.hid (un_take x4 w.heap.size 2 HF4.out (by decide) gmC wfGC w5 HU5.out ⟨zM_in _, rlies_nil _⟩ (.inr (zM_own 0 _)) HT5.out.1 HZ.out)
  rw [HP4.out] at HTC
  clear HU4 HT4 HB4 HBH
  go_wp2_with (first
    | (refine wpBuilt2 rfl _ _ rfl _ _ builtGC rfl rfl ?_)
    | (go_at_call 19; refine HTC.out.mono ?_; rintro e w6 ⟨x6, v6, g6, rfl, hg6, ha6, hun6, hu6, hp6, hf6⟩; refine Hid.out ?_))
  have hn6 : x6.un = ⟨4, [newU muA], [], false⟩ := hun6.trans (by rw [HN4.out]; exact takS2)
  have HN6 := Lib.hid hn6
  have HU6 := Lib.hid hu6
  have HP6 := Lib.hid (hp6.trans HP4.out)
  have HB6 := Lib.hid (show Below w.heap.size w w6 from HB5.out.trans (hf6.old HU5.out HB5.out.size (Below.refl _ _)))
  have RH6 := Lib.hid (hf6.fr.blk RH.out HNH.out)
  have HF6 := Lib.hid (HF4.out.take wfGC (by decide) hun6)
  have HBS := Lib.hid (un_base x6 w.heap.size 4 HF6.out w6 hu6)
  rw [HP6.out] at HBS
  clear hg6 ha6 hun6 hu6 hp6 hf6 hn6 HTC HU5 HT5 HB5 RH HNH HF4
  have k14 : w6.cell? ⟨bH, 14, none⟩ = some (.bool true) := by
    rw [← HHP.out]
    exact (cell_of_row _ bH 14 _ _ _ RH6.out).trans rfl
  refine Lib.hid ?_
  go_wp2_with (go_at_call 15; refine HBS.out.mono ?_; rintro e w7 ⟨vb, Lb, rfl, hub, hob, hw7⟩; refine Hid.out ?_)
  have hlb : Lb.length = 1 := by
    have h1 := congrArg List.length hub
    rw [HN6.out, List.length_map] at h1
    exact h1
  obtain ⟨pb, cb, eb⟩ := hob.1.form
  rw [hlb] at eb
  subst eb
  have HU7 := Lib.hid (HU6.out.below hw7)
  have HB7 := Lib.hid (HB6.out.trans (hw7.mono HB6.out.size))
  have hts : x6.ts = [] := by
    have h1 : x6.ts.map (·.tx) = [] := congrArg Un.opn HN6.out
    simpa using h1
  have HOP := Lib.hid (un_open x6 w.heap.size (by rw [hts]; decide) w7 HU7.out)
  rw [HP6.out, hts] at HOP
  clear hlb hub hob hw7 hts HU6 HB6 HBS k14 RH6
  refine Lib.hid ?_
  go_wp2_with (go_at_call 18; refine HOP.out.mono ?_; rintro e w8 ⟨vo, rfl, hko, hw8⟩; refine Hid.out ?_)
  obtain ⟨po, co, eo⟩ := hko.form
  rw [show (ascL (([] : List Tm).map (·.id))).length = 0 from ascL_len _] at eo
  subst eo
  have HB8 := Lib.hid (HB7.out.trans (hw8.mono HB7.out.size))
  clear hko hw8 HOP HU7 HB7
  refine Lib.hid ?_
  go_wp2_with fail
  go_ret
  exact ⟨rfl, HB8.out⟩
end Go.Proofs.YtomnpfbebimpkaaGreatDoor
