/-
  A unit's small functions: New, refusal, place, changes.
-/
import Derived.Test.YtomnpfbebimpkaaGreatDoorUniVal
import Derived.Test.YtomnpfbebimpkaaGreatDoorCodArg
namespace Go.Proofs.YtomnpfbebimpkaaGreatDoor
set_option maxRecDepth 20000
open Go.RowKit

theorem infoInt0 : (Tryz.prog.info? 3).map (·.size) = some 1 := by kernel_rfl
/-- how much room there may be -/
def clampR (n : Int) : Int := max 0 (min n 32)
def nilUm (b : Nat) (n : Int) : Um := ⟨b, n, .slice none 0 0, [], .slice none 0 0, [], false⟩
theorem builtUn (n : Int) : Tryz.prog.built 81 [(0, .int .i64 n)] = some (uca (nilUm 0 n)) := by kernel_rfl
theorem buildUn {ops : Array Oper} {rest : List Oper} {o : Oper} {a : Act} {w : World} {Q : Exit → Act → World → Prop} (hg : o.guard = none) (x : Operand) (ho : o.op = .build 81 #[(0, x)]) (n : Int) (hx : a.eval x = .int .i64 n)
    (k : wpList Tryz.prog ops Q rest (a.put o.dst (.agg (uca (nilUm 0 n)))) w) : wpList Tryz.prog ops Q (o :: rest) a w := by
  have e : ((#[(0, x)] : Array (Nat × Operand)).map fun (p : Nat × Operand) => (p.1, a.eval p.2)).toList = [(0, .int .i64 n)] := by simp [hx]
  have e' := congrArg (Tryz.prog.built 81) e
  rw [builtUn] at e'
  refine wpList_build hg 81 _ ho (by rw [e']; rfl) ?_
  rw [e']
  exact k
theorem new_um {w W : World} (n : Int) (h : Blk w.heap.size (uca (nilUm 0 n)) 81 W) : UniA w.heap.size (nilUm w.heap.size n) W :=
  ⟨h, Nat.le_refl _, OL.nil _ _, KOwns.nil _ _, fun t ht => (by cases ht), List.nodup_nil⟩
theorem un_new (room : Int) (w : World) : Calls Tryz.prog 10 #[.int .i64 room] w fun e w' => e = .returned (.pointer (some ⟨w.heap.size, 0, none⟩)) ∧ UniA w.heap.size (nilUm w.heap.size (clampR room)) w' ∧ Below w.heap.size w w' := by
  have R0 := Lib.hid (Blk.new w (uca (nilUm 0 (clampR room))) 81)
  have HB := Lib.hid (below1 w (.cells (uca (nilUm 0 (clampR room))) 81))
  go_enter Tryz.func10, Tryz.ntmps10
  go_wp2_with (refine buildUn rfl _ rfl (clampR room) rfl ?_)
  go_ret
  exact ⟨rfl, new_um _ R0.out, HB.out⟩
/-! ### answers -/
def errG (t e : Int) : Gm := ⟨6, t, e, zMm, 0, zHd, none, 0, 0, []⟩
theorem errG_u (t e : Int) : (errG t e).u = errM t e := rfl
theorem zeroG : ((Tryz.prog.info? 42).bind (·.zero)).map (·.cells) = some #[Value.int IntKind.i64 0, Value.int IntKind.i64 0, Value.int IntKind.i64 0, Value.int IntKind.i64 0, Value.int IntKind.u64 0, Value.int IntKind.u64 0, Value.int IntKind.u64 0, Value.int IntKind.u64 0, Value.int IntKind.u64 0, Value.int IntKind.u64 0, Value.int IntKind.u64 0, Value.int IntKind.u64 0, Value.int IntKind.u64 0, Value.int IntKind.u64 0, Value.int IntKind.u64 0, Value.int IntKind.u64 0, Value.int IntKind.u64 0, Value.int IntKind.u64 0, Value.int IntKind.u64 0, Value.int IntKind.u64 0, Value.int IntKind.u64 0, Value.int IntKind.u64 0, Value.int IntKind.u64 0, Value.int IntKind.u64 0, Value.int IntKind.u64 0, Value.int IntKind.u64 0, Value.int IntKind.u64 0, Value.int IntKind.u64 0, Value.int IntKind.i64 0, Value.slice none 0 0, Value.int IntKind.i64 0, Value.int IntKind.i64 0, Value.int IntKind.i64 0, Value.bool false, Value.int IntKind.i64 0, Value.int IntKind.u64 0, Value.int IntKind.u64 0, Value.int IntKind.u64 0, Value.int IntKind.u64 0, Value.int IntKind.u64 0, Value.int IntKind.u64 0, Value.int IntKind.u64 0, Value.int IntKind.u64 0, Value.int IntKind.u64 0, Value.int IntKind.u64 0, Value.int IntKind.u64 0, Value.int IntKind.u64 0, Value.slice none 0 0] := by kernel_rfl
theorem fillG1 (g : Gm) : Instr.fill (fun i' => some (i' * 48, 48)) ((Array.range (1 * 48)).map ((#[Value.int IntKind.i64 0, Value.int IntKind.i64 0, Value.int IntKind.i64 0, Value.int IntKind.i64 0, Value.int IntKind.u64 0, Value.int IntKind.u64 0, Value.int IntKind.u64 0, Value.int IntKind.u64 0, Value.int IntKind.u64 0, Value.int IntKind.u64 0, Value.int IntKind.u64 0, Value.int IntKind.u64 0, Value.int IntKind.u64 0, Value.int IntKind.u64 0, Value.int IntKind.u64 0, Value.int IntKind.u64 0, Value.int IntKind.u64 0, Value.int IntKind.u64 0, Value.int IntKind.u64 0, Value.int IntKind.u64 0, Value.int IntKind.u64 0, Value.int IntKind.u64 0, Value.int IntKind.u64 0, Value.int IntKind.u64 0, Value.int IntKind.u64 0, Value.int IntKind.u64 0, Value.int IntKind.u64 0, Value.int IntKind.u64 0, Value.int IntKind.i64 0, Value.slice none 0 0, Value.int IntKind.i64 0, Value.int IntKind.i64 0, Value.int IntKind.i64 0, Value.bool false, Value.int IntKind.i64 0, Value.int IntKind.u64 0, Value.int IntKind.u64 0, Value.int IntKind.u64 0, Value.int IntKind.u64 0, Value.int IntKind.u64 0, Value.int IntKind.u64 0, Value.int IntKind.u64 0, Value.int IntKind.u64 0, Value.int IntKind.u64 0, Value.int IntKind.u64 0, Value.int IntKind.u64 0, Value.int IntKind.u64 0, Value.slice none 0 0] : Array Value)[· % (#[Value.int IntKind.i64 0, Value.int IntKind.i64 0, Value.int IntKind.i64 0, Value.int IntKind.i64 0, Value.int IntKind.u64 0, Value.int IntKind.u64 0, Value.int IntKind.u64 0, Value.int IntKind.u64 0, Value.int IntKind.u64 0, Value.int IntKind.u64 0, Value.int IntKind.u64 0, Value.int IntKind.u64 0, Value.int IntKind.u64 0, Value.int IntKind.u64 0, Value.int IntKind.u64 0, Value.int IntKind.u64 0, Value.int IntKind.u64 0, Value.int IntKind.u64 0, Value.int IntKind.u64 0, Value.int IntKind.u64 0, Value.int IntKind.u64 0, Value.int IntKind.u64 0, Value.int IntKind.u64 0, Value.int IntKind.u64 0, Value.int IntKind.u64 0, Value.int IntKind.u64 0, Value.int IntKind.u64 0, Value.int IntKind.u64 0, Value.int IntKind.i64 0, Value.slice none 0 0, Value.int IntKind.i64 0, Value.int IntKind.i64 0, Value.int IntKind.i64 0, Value.bool false, Value.int IntKind.i64 0, Value.int IntKind.u64 0, Value.int IntKind.u64 0, Value.int IntKind.u64 0, Value.int IntKind.u64 0, Value.int IntKind.u64 0, Value.int IntKind.u64 0, Value.int IntKind.u64 0, Value.int IntKind.u64 0, Value.int IntKind.u64 0, Value.int IntKind.u64 0, Value.int IntKind.u64 0, Value.int IntKind.u64 0, Value.slice none 0 0] : Array Value).size]!)) [(0, .agg (gca g))] = some (gca g) := by kernel_rfl
theorem builtErr (t e : Int) : Tryz.prog.built 42 [(0, .int .i64 6), (1, .int .i64 t), (2, .int .i64 e)] = some (gca (errG t e)) := by kernel_rfl
theorem buildErr {ops : Array Oper} {rest : List Oper} {o : Oper} {a : Act} {w : World} {Q : Exit → Act → World → Prop} (hg : o.guard = none) (x y z : Operand) (ho : o.op = .build 42 #[(0, x), (1, y), (2, z)]) (t e : Int)
    (hx : a.eval x = .int .i64 6) (hy : a.eval y = .int .i64 t) (hz : a.eval z = .int .i64 e)
    (k : wpList Tryz.prog ops Q rest (a.put o.dst (.agg (gca (errG t e)))) w) : wpList Tryz.prog ops Q (o :: rest) a w := by
  have e1 : ((#[(0, x), (1, y), (2, z)] : Array (Nat × Operand)).map fun (p : Nat × Operand) => (p.1, a.eval p.2)).toList = [(0, .int .i64 6), (1, .int .i64 t), (2, .int .i64 e)] := by simp [hx, hy, hz]
  have e' := congrArg (Tryz.prog.built 42) e1
  rw [builtErr] at e'
  refine wpList_build hg 42 _ ho (by rw [e']; rfl) ?_
  rw [e']
  exact k
/-- elements that fill a block of one's own -/
theorem Blk.own {α : Type} {K : Kd α} (ok : K.Ok) {b base : Nat} {cs : Array Value} {l : List α} {W : World} (h : Blk b cs K.T W) (he : cs.toList = K.flat l) (hm : l.length ≤ maxLen) (hb : base ≤ b) : KOwns K base (.slice (some ⟨b, 0, none⟩) l.length l.length) l W := by
  have hsz : cs.size = l.length * K.n := by
    have := congrArg List.length he
    rwa [Array.length_toList, ok.flat_len] at this
  refine ⟨ok.flat_len l, .inr ⟨b, l.length, cs, rfl, hb, h, Nat.le_refl _, hm, hsz, ?_⟩⟩
  rw [he, List.take_of_length_le (by rw [ok.flat_len]; exact Nat.le_refl _)]
/-- one message written out as a slice -/
theorem oneG1 {b base : Nat} {g : Gm} {W : World} (h : Blk b (gca g) KG.T W) (hb : base ≤ b) : KOwns KG base (.slice (some ⟨b, 0, none⟩) 1 1) [g] W := Blk.own (l := [g]) okG h (by simp [Kd.flat, gca]) (by show 1 ≤ maxLen; unfold maxLen; decide) hb
/-- what a message names, of one's own -/
def OwnGm (B : Nat) (a : Gm) (W : World) : Prop := OwnM B a.mod W ∧ OL B (.slice a.q a.n a.c) a.rs W
/-- messages that a call answers, with all that they name, from a block on -/
def AnsL (B : Nat) (v : Value) (gs : List Gm) (W : World) : Prop := KOwns KG B v gs W ∧ ∀ a ∈ gs, OwnGm B a W
section
variable {B : Nat} {v : Value} {gs : List Gm} {a : Gm} {M : List Nat} {W W' : World}
theorem OwnGm.inG (h : OwnGm B a W) : InG a W := ⟨h.1.inM, h.2.lies⟩
theorem OwnGm.below (h : OwnGm B a W) (hb : Below W.heap.size W W') : OwnGm B a W' := ⟨h.1.below hb, h.2.below hb⟩
theorem OwnGm.fr (h : OwnGm B a W) (k : Fr M W W') (hM : Muts M W) : OwnGm B a W' := ⟨h.1.fr k hM, h.2.fr k hM⟩
theorem AnsL.below (h : AnsL B v gs W) (hb : Below W.heap.size W W') : AnsL B v gs W' := ⟨h.1.below hb, fun a ha => (h.2 a ha).below hb⟩
theorem AnsL.fr (h : AnsL B v gs W) (k : Fr M W W') (hM : Muts M W) : AnsL B v gs W' := ⟨k.ownsT hM h.1 notG, fun a ha => (h.2 a ha).fr k hM⟩
theorem AnsL.mono {B' : Nat} (h : AnsL B v gs W) (hb : B' ≤ B) : AnsL B' v gs W := ⟨h.1.mono hb, fun a ha => ⟨KOwns.mono (h.2 a ha).1 hb, (h.2 a ha).2.mono hb⟩⟩
theorem AnsL.nil (B : Nat) (W : World) : AnsL B (.slice none 0 0) [] W := ⟨KOwns.nil _ _, fun a ha => (by cases ha)⟩
theorem AnsL.one (h : KOwns KG B v [a] W) (hi : OwnGm B a W) : AnsL B v [a] W := ⟨h, fun y hy => by
  simp only [List.mem_cons, List.not_mem_nil, or_false] at hy
  subst hy
  exact hi⟩
theorem AnsL.lies (h : AnsL B v gs W) : KLies KG v gs W ∧ ∀ a ∈ gs, InG a W := ⟨h.1.lies okG, fun a ha => (h.2 a ha).inG⟩
end
/-- what a call answers -/
def AnsR (w : World) (ms : List Ms) (e : Ending) (w' : World) : Prop := ∃ v gs, e = .returned v ∧ gs.map (·.u) = ms ∧ AnsL w.heap.size v gs w' ∧ Below w.heap.size w w'
theorem zM_in (W : World) : InM zMm W := .inl ⟨rfl, rfl⟩
theorem zM_own (B : Nat) (W : World) : OwnM B zMm W := KOwns.nil _ _
theorem errG_own (B : Nat) (t e : Int) (W : World) : OwnGm B (errG t e) W := ⟨zM_own B W, OL.nil B W⟩
theorem un_refusal (t e : Int) (w : World) : Calls Tryz.prog 40 #[.int .i64 t, .int .i64 e] w (AnsR w (errL t e)) := by
  by_cases he : e = 0
  · subst he
    go_enter Tryz.func40, Tryz.ntmps40
    go_wp2_with fail
    go_ret
    exact ⟨_, [], rfl, rfl, AnsL.nil _ _, Below.refl _ _⟩
  · have he' : (e == 0) = false := by simpa using he
    have R1 := Lib.hid (Blk.new w (gca (errG t e)) KG.T)
    have HB := Lib.hid (below1 w (.cells (gca (errG t e)) KG.T))
    have HE := Lib.hid he
    clear he
    go_enter Tryz.func40, Tryz.ntmps40
    go_wp2_with (first
      | (refine buildErr rfl _ _ _ rfl t e rfl rfl rfl ?_)
      | (refine kbuildOne KG okG #[Value.int IntKind.i64 0, Value.int IntKind.i64 0, Value.int IntKind.i64 0, Value.int IntKind.i64 0, Value.int IntKind.u64 0, Value.int IntKind.u64 0, Value.int IntKind.u64 0, Value.int IntKind.u64 0, Value.int IntKind.u64 0, Value.int IntKind.u64 0, Value.int IntKind.u64 0, Value.int IntKind.u64 0, Value.int IntKind.u64 0, Value.int IntKind.u64 0, Value.int IntKind.u64 0, Value.int IntKind.u64 0, Value.int IntKind.u64 0, Value.int IntKind.u64 0, Value.int IntKind.u64 0, Value.int IntKind.u64 0, Value.int IntKind.u64 0, Value.int IntKind.u64 0, Value.int IntKind.u64 0, Value.int IntKind.u64 0, Value.int IntKind.u64 0, Value.int IntKind.u64 0, Value.int IntKind.u64 0, Value.int IntKind.u64 0, Value.int IntKind.i64 0, Value.slice none 0 0, Value.int IntKind.i64 0, Value.int IntKind.i64 0, Value.int IntKind.i64 0, Value.bool false, Value.int IntKind.i64 0, Value.int IntKind.u64 0, Value.int IntKind.u64 0, Value.int IntKind.u64 0, Value.int IntKind.u64 0, Value.int IntKind.u64 0, Value.int IntKind.u64 0, Value.int IntKind.u64 0, Value.int IntKind.u64 0, Value.int IntKind.u64 0, Value.int IntKind.u64 0, Value.int IntKind.u64 0, Value.int IntKind.u64 0, Value.slice none 0 0] zeroG rfl _ rfl (gca (errG t e)) rfl (by decide) (fillG1 _) ?_))
    go_ret
    exact ⟨_, [errG t e], rfl, by unfold errL; rw [if_neg HE.out]; rfl, AnsL.one (oneG1 R1.out (Nat.le_refl _)) (errG_own _ _ _ _), HB.out⟩
/-! ### place -/
theorem un_pl1 (t : Tm) (b : Nat) (id : Int) (W : World) (ht : Blk t.b (tca t) 93 W) (hb : Blk b #[.int .i64 id] 3 W) :
    Calls Tryz.prog 113 #[.pointer (some ⟨t.b, 0, none⟩), .pointer (some ⟨b, 0, none⟩)] W fun e w' => e = .returned (.bool (t.id == id)) ∧ Below W.heap.size W w' := by
  have c0 : W.cell? ⟨t.b, 0, none⟩ = some (.int .i64 t.id) := (cell_of_row _ t.b 0 _ _ _ ht).trans rfl
  have c1 : W.cell? ⟨b, 0, none⟩ = some (.int .i64 id) := (cell_of_row _ b 0 _ _ _ hb).trans rfl
  clear ht hb
  go_enter Tryz.func113, Tryz.ntmps113
  go_upto_region 1 with fail
  go_quiet (fail)
  have HB := Lib.hid (belowDrewN W nq)
  clear c0 c1
  generalize W.drewN nq = W1 at *
  go_wp2_with fail
  go_ret
  exact ⟨rfl, HB.out⟩
/-- a pointer of a slice -/
theorem ptrAt {W : World} {bb o r : Nat} {c : Nat} (h : W.rangeAt bb (o + r * 1) (KX.cells c)) : W.cell? ⟨bb, o + r * 1, none⟩ = some (.pointer (some ⟨c, 0, none⟩)) ∧ W.cell? ⟨bb, o + r, none⟩ = some (.pointer (some ⟨c, 0, none⟩)) := by
  have := h 0 _ rfl
  exact ⟨this, by rwa [Nat.mul_one] at this⟩
def qId (id : Int) (t : Tm) : Bool := t.id == id
set_option maxHeartbeats 1000000 in
theorem un_index (g : Nat) (cb : Array Value) (q : Tm → Bool) (eg : ∀ args w, (callFunc g args).run Tryz.prog w = .ok (.enter g args) w) (p : Option Addr) (cap : Nat) (l : List Tm) (hlen : l.length ≤ 1000000) (w : World)
    (hl : KLies KX (.slice p l.length cap) (l.map (·.b)) w) (hp : ∀ W, Below w.heap.size w W → ∀ t ∈ l, Calls Tryz.prog g (#[.pointer (some ⟨t.b, 0, none⟩)] ++ cb) W fun e w' => e = .returned (.bool (q t)) ∧ Below W.heap.size W w') :
    Calls Tryz.prog 112 #[.slice p l.length cap, .func (.func g) #[] cb] w fun e w' => e = .returned (.int .i64 (kidx q l)) ∧ Below w.heap.size w w' := by
  have HL := Lib.hid hl
  have HP := Lib.hid hp
  clear hl hp
  go_enter Tryz.func112, Tryz.ntmps112
  go_wp2
  go_loopg [8] l.length (fun k i wr => ∃ r : Nat, r + k = l.length ∧ i = .int .i64 r ∧ (∀ j b, j < r → l[j]? = some b → q b = false) ∧ Below w.heap.size w wr)
  case atStart => exact ⟨0, by omega, rfl, fun j _ h => absurd h (by omega), Below.refl _ _⟩
  case round =>
    obtain ⟨r, hr, rfl, hq, hb⟩ := hrel
    have HQ := Lib.hid hq
    have HB := Lib.hid hb
    clear hq hb
    by_cases hlt : r < l.length
    · have hltI : (r : Int) < (l.length : Int) := by omega
      obtain ⟨c, hc⟩ := lt_some hlt
      obtain ⟨b, o, rfl, hrg⟩ := (HL.out.below okX HB.out).at (i := r) (a := c.b) (by rw [List.getElem?_map, hc]; rfl)
      obtain ⟨c0, c1⟩ := ptrAt hrg
      have HI := Lib.hid hc
      have HC := Lib.hid (show Calls Tryz.prog g (#[.pointer (some ⟨c.b, 0, none⟩)] ++ cb) wr _ from HP.out wr HB.out c (List.mem_of_getElem? hc))
      clear hrg hc
      cases hq : q c
      · rw [hq] at HC
        have HH := Lib.hid hq
        clear hq
        go_wp2_with (go_at_fn g; refine HC.out.mono ?_; rintro e w1 ⟨rfl, hw1⟩)
        have HB1 := Lib.hid (HB.out.trans (hw1.mono HB.out.size))
        clear hw1 HC c0 c1
        go_roundg (l.length - (r + 1))
        case measure => omega
        case rel =>
          refine ⟨r + 1, by omega, by go_num, fun j b' hj hb' => ?_, HB1.out⟩
          by_cases e : j = r
          · subst e
            rw [HI.out] at hb'
            rw [← Option.some.inj hb']; exact HH.out
          · exact HQ.out j b' (by omega) hb'
      · rw [hq] at HC
        have HH := Lib.hid (kidx_hit HI.out hq HQ.out)
        clear hq
        go_wp2_with (go_at_fn g; refine HC.out.mono ?_; rintro e w1 ⟨rfl, hw1⟩)
        have HB1 := Lib.hid (HB.out.trans (hw1.mono HB.out.size))
        clear hw1 HC c0 c1
        go_ret
        exact ⟨retI HH.out.symm, HB1.out⟩
    · have hltI : ¬ (r : Int) < (l.length : Int) := by omega
      have HH := Lib.hid (kidx_none (q := q) (l := l) fun j b hj => HQ.out j b (by have := (List.getElem?_eq_some_iff.1 hj).1; omega) hj)
      go_wp2
      go_ret
      exact ⟨retI HH.out.symm, HB.out⟩
theorem UniA.voForm {B : Nat} {x : Um} {W : World} (h : UniA B x W) : ∃ p c, x.vo = .slice p x.ts.length c := by
  obtain ⟨p, c, e⟩ := h.opn.form
  exact ⟨p, c, by rw [e, List.length_map]⟩
theorem un_place (x : Um) (B : Nat) (id : Int) (hlen : x.ts.length ≤ 100000) (w : World) (h : UniA B x w) :
    Calls Tryz.prog 76 #[.pointer (some ⟨x.p, 0, none⟩), .int .i64 id] w fun e w' => e = .returned (.int .i64 (kidx (qId id) x.ts)) ∧ Below w.heap.size w w' := by
  obtain ⟨p, c, hv⟩ := h.voForm
  have R0 := Lib.hid (Blk.new w #[.int .i64 id] 3)
  have HB := Lib.hid (below1 w (.cells #[.int .i64 id] 3))
  have HU := Lib.hid (h.below HB.out)
  have HV := Lib.hid hv
  have HI := Lib.hid (un_index 113 #[.pointer (some ⟨w.heap.size, 0, none⟩)] (qId id) (fun _ _ => rfl) p c x.ts (by omega) (w.alloc (.cells #[.int .i64 id] 3)) (by rw [← HV.out]; exact HU.out.opn.lies okX)
    (fun W hb t ht => un_pl1 t w.heap.size id W ((HU.out.txs t ht).below hb).box (R0.out.below hb)))
  have c2 : (w.alloc (.cells #[.int .i64 id] 3)).cell? ⟨x.p, 2, none⟩ = some (.slice p x.ts.length c) := by rw [← HV.out]; exact HU.out.vo_
  clear h hv HU R0
  go_enter Tryz.func76, Tryz.ntmps76
  go_wp2_with (go_at_call 112; refine HI.out.mono ?_; rintro e w1 ⟨rfl, hw1⟩)
  have HB1 := Lib.hid (HB.out.trans (hw1.mono HB.out.size))
  clear hw1 HI HB c2
  go_ret
  exact ⟨rfl, HB1.out⟩
end Go.Proofs.YtomnpfbebimpkaaGreatDoor
