/-
  The walk of UnitNone; the comparison of hops.
-/
import Derived.Test.YtomnpfbebimpkaaGreatDoorPackUniP
import Derived.Test.YtomnpfbebimpkaaGreatDoorCodArg
namespace Go.Proofs.YtomnpfbebimpkaaGreatDoor
set_option maxRecDepth 20000
open Go.RowKit

/-- are two hops the same? -/
def hpEq (a b : Hp) : Bool := (a.port == b.port) && (hEq a.head b.head && ((a.hit == b.hit) && ((a.prio == b.prio) && cEq a.m b.m)))
theorem edFields : ∃ f g : Field, (Tryz.prog.fieldsOf 58).toList = [f, g] ∧ (f.name ≠ "_" ∧ f.type = 3 ∧ f.offset = 0) ∧ (g.name ≠ "_" ∧ g.type = 3 ∧ g.offset = 1) := ⟨_, _, rfl, ⟨by decide, rfl, rfl⟩, ⟨by decide, rfl, rfl⟩⟩
theorem hopFields : ∃ f0 f1 f2 f3 f4 : Field, (Tryz.prog.fieldsOf 60).toList = [f0, f1, f2, f3, f4] ∧ (f0.name ≠ "_" ∧ f0.type = 58 ∧ f0.offset = 0) ∧ (f1.name ≠ "_" ∧ f1.type = 35 ∧ f1.offset = 2) ∧ (f2.name ≠ "_" ∧ f2.type = 4 ∧ f2.offset = 14) ∧ (f3.name ≠ "_" ∧ f3.type = 3 ∧ f3.offset = 15) ∧ (f4.name ≠ "_" ∧ f4.type = 37 ∧ f4.offset = 16) :=
  ⟨_, _, _, _, _, rfl, ⟨by decide, rfl, rfl⟩, ⟨by decide, rfl, rfl⟩, ⟨by decide, rfl, rfl⟩, ⟨by decide, rfl, rfl⟩, ⟨by decide, rfl, rfl⟩⟩
def edA (p : Int) : Array Value := #[.int .i64 0, .int .i64 p]
theorem partE0' (p : Int) (w : World) : (part 3 (edA p) 0).run Tryz.prog w = .ok (.int .i64 0) w := by kernel_rfl
theorem partE1' (p : Int) (w : World) : (part 3 (edA p) 1).run Tryz.prog w = .ok (.int .i64 p) w := by kernel_rfl
theorem partH0 (x : Hp) (w : World) : (part 58 (hpa x) 0).run Tryz.prog w = .ok (.agg (edA x.port)) w := by kernel_rfl
theorem partH1 (x : Hp) (w : World) : (part 35 (hpa x) 2).run Tryz.prog w = .ok (.agg (hc x.head)) w := by kernel_rfl
theorem partH2 (x : Hp) (w : World) : (part 4 (hpa x) 14).run Tryz.prog w = .ok (.bool x.hit) w := by kernel_rfl
theorem partH3 (x : Hp) (w : World) : (part 3 (hpa x) 15).run Tryz.prog w = .ok (.int .i64 x.prio) w := by kernel_rfl
theorem partH4 (x : Hp) (w : World) : (part 37 (hpa x) 16).run Tryz.prog w = .ok (.agg (cc x.m)) w := by kernel_rfl
theorem eql_ed (d : Nat) (a b : Int) (w : World) : (Op.equalIn (d + 2) 58 (.agg (edA a)) (.agg (edA b))).run Tryz.prog w = .ok (a == b) w := by
  obtain ⟨f, g, hf, ⟨f1, f2, f3⟩, ⟨g1, g2, g3⟩⟩ := edFields
  rw [run_equalIn_struct w (d + 1) 58 (edA a) (edA b) (by kernel_rfl) (by kernel_rfl), hf]
  have hI : ∀ x y : Int, (Op.equalIn (d + 1) 3 (.int .i64 x) (.int .i64 y)).run Tryz.prog w = .ok (x == y) w := fun x y => run_equalIn_int w d 3 .i64 .i64 x y Tryz.underlying3
  simp only [Op.eqFields, f1, f2, f3, g1, g2, g3, ne_eq, not_false_eq_true, if_true, Sem.run_bind, partE0', Result.andThen_ok, hI, BEq.rfl, Bool.not_true, Bool.false_eq_true, if_false, partE1']
  cases a == b <;> simp
theorem eqlHcD (d : Nat) (a b : Nat → Int) (w : World) : (Op.equalIn (d + 2) 35 (.agg (hc a)) (.agg (hc b))).run Tryz.prog w = .ok (hEq a b) w := eqlHl d a b w
theorem eql_bool (d : Nat) (a b : Bool) (w : World) : (Op.equalIn (d + 1) 4 (.bool a) (.bool b)).run Tryz.prog w = .ok (a == b) w := by
  simp [Op.equalIn, run_underlying Tryz.underlying4, Result.andThen]
theorem eql_hop (a b : Hp) (w : World) : (Op.equalIn 10000 60 (.agg (hpa a)) (.agg (hpa b))).run Tryz.prog w = .ok (hpEq a b) w := by
  obtain ⟨f0, f1, f2, f3, f4, hf, ⟨a0, b0, c0⟩, ⟨a1, b1, c1⟩, ⟨a2, b2, c2⟩, ⟨a3, b3, c3⟩, ⟨a4, b4, c4⟩⟩ := hopFields
  rw [run_equalIn_struct w 9999 60 (hpa a) (hpa b) (by kernel_rfl) (by kernel_rfl), hf]
  have hI : ∀ x y : Int, (Op.equalIn 9999 3 (.int .i64 x) (.int .i64 y)).run Tryz.prog w = .ok (x == y) w := fun x y => run_equalIn_int w 9998 3 .i64 .i64 x y Tryz.underlying3
  unfold hpEq
  simp only [Op.eqFields, a0, b0, c0, a1, b1, c1, a2, b2, c2, a3, b3, c3, a4, b4, c4, ne_eq, not_false_eq_true, if_true, Sem.run_bind, partH0, Result.andThen_ok, eql_ed 9997]
  cases e0 : a.port == b.port
  · simp
  simp only [Bool.not_true, Bool.false_eq_true, if_false, Sem.run_bind, partH1, Result.andThen_ok, eqlHcD 9997]
  cases e1 : hEq a.head b.head
  · simp
  simp only [Bool.not_true, Bool.false_eq_true, if_false, Sem.run_bind, partH2, Result.andThen_ok, eql_bool 9998]
  cases e2 : a.hit == b.hit
  · simp
  simp only [Bool.not_true, Bool.false_eq_true, if_false, Sem.run_bind, partH3, Result.andThen_ok, hI]
  cases e3 : a.prio == b.prio
  · simp
  simp only [Bool.not_true, Bool.false_eq_true, if_false, Sem.run_bind, partH4, Result.andThen_ok, eql_cubeD 9996]
  cases e4 : cEq a.m b.m <;> simp
theorem guardHop : Tryz.prog.eqGuardType Tryz.prog.depth 60 = false := by kernel_rfl
theorem hpEq_self (a : Hp) : hpEq a a = true := by
  unfold hpEq
  rw [(hEq_iff a.head a.head).2 fun _ _ => rfl, (cEq_iff a.m a.m).2 fun _ _ => rfl]
  simp
theorem ints_nil (w : World) : Calls Tryz.prog 24 #[.slice none 0 0, .slice none 0 0] w fun e w' => e = .returned (.bool true) ∧ Below w.heap.size w w' := by
  go_enter Tryz.func24, Tryz.ntmps24
  go_wp2_with fail
  go_loopg [5] 0 (fun k i wr => i = .int .i64 0 ∧ w = wr)
  case atStart => exact ⟨rfl, rfl⟩
  case round =>
    obtain ⟨rfl, rfl⟩ := hrel
    go_wp2_with fail
    go_ret
    exact ⟨rfl, Below.refl _ _⟩
theorem buildHpG {ops : Array Oper} {rest : List Oper} {o : Oper} {a : Act} {w : World} {Q : Exit → Act → World → Prop} (hw : Region.wanted o (yielded ops a.tmps) = true) (ho : o.op = .build 60 #[]) (k : wpList Tryz.prog ops Q rest (a.put o.dst (.agg (hpa zHp))) w) : wpList Tryz.prog ops Q (o :: rest) a w := by
  have e : ((#[] : Array (Nat × Operand)).map fun (p : Nat × Operand) => (p.1, a.eval p.2)).toList = [] := by simp
  have e' := congrArg (Tryz.prog.built 60) e
  rw [builtHp0] at e'
  refine wpList_step fun K hK => ?_
  rw [if_pos hw]
  refine wp_build 60 _ ho (by rw [e']; rfl) ?_
  rw [e']
  exact hK _ _ k
set_option maxHeartbeats 2000000 in
set_option maxRecDepth 100000 in
theorem unitNone_any (g : Gm) (_ : WfG g) (n : Int) (_ : I64 n) (h : Nat → Int) (_ : Wf h) (w : World) (_ : InG g w) (ht : Tab w) (hz : 0 < w.heap.size) :
    Calls Tryz.prog 6 #[.agg (gca g), .int .i64 n, .agg (hc h)] w fun e w' => e = .returned (.bool true) ∧ Below w.heap.size w w' := by
  have HB0 := Lib.hid (show Below w.heap.size w ((w.alloc (.cells (gca g) 42)).alloc (.cells (hc h) 35)) from (below1 w _).trans ((below1 _ _).mono (below1 w _).size))
  have RG := Lib.hid ((Blk.new w (gca g) 42).below (below1 _ (.cells (hc h) 35)))
  have RH := Lib.hid (Blk.new2 w (.cells (gca g) 42) (hc h) 35)
  have HT := Lib.hid (fun (W : World) (hb : Below w.heap.size w W) => Env.at_ ht hz hb (Nat.le_refl _))
  clear ht
  go_enter Tryz.func6, Tryz.ntmps6
  go_upto_region 1 with fail
  obtain ⟨bG, hbG⟩ : ∃ bG, bG = w.heap.size := ⟨_, rfl⟩
  rw [← hbG] at RG RH ⊢
  generalize hW : (w.alloc (.cells (gca g) 42)).alloc (.cells (hc h) 35) = w0 at *
  clear hW hbG
  have HF := Lib.hid (nil_fail w0)
  go_upto_region 3 with (go_at_call 23; refine HF.out.mono ?_; rintro e w1 ⟨rfl, hw1⟩; refine Hid.out ?_)
  have HB1 := Lib.hid (HB0.out.trans (hw1.mono HB0.out.size))
  have RG1 := Lib.hid (RG.out.below hw1)
  have RH1 := Lib.hid (RH.out.below hw1)
  have HP := Lib.hid (nil_packet n h w1)
  clear hw1 HF HB0 RG RH
  refine Lib.hid ?_
  go_upto_region 4 with (first
    | (refine wpList_load_row rfl 35 _ rfl (bG + 1) rfl 35 (hc h) (0, 0) _ RH1.out Tryz.underlying35 rfl infoHc ?_)
    | (go_at_call 20; refine HP.out.mono ?_; rintro e w2 ⟨rfl, hw2⟩; have HB2 := Lib.hid (HB1.out.trans (hw2.mono HB1.out.size)); have RG2 := Lib.hid (RG1.out.below hw2); clear hw2)
    | (refine wpList_store_row rfl 60 _ _ rfl w2.heap.size (hpa zHp) rfl rfl 60 _ (heap_alloc_new _ _) (by kernel_rfl) rfl (hpa_one _) ?_; rw [World.setRow_alloc_new]))
  have RP := Lib.hid (Blk.new w2 (hpa zHp) 60)
  have RG3 := Lib.hid (RG2.out.below (below1 w2 (.cells (hpa zHp) 60)))
  have HB3 := Lib.hid (HB2.out.trans ((below1 w2 (.cells (hpa zHp) 60)).mono HB2.out.size))
  obtain ⟨bP, hbP⟩ : ∃ bP, bP = w2.heap.size := ⟨_, rfl⟩
  rw [← hbP] at RP ⊢
  generalize w2.alloc (.cells (hpa zHp) 60) = w3 at *
  clear hbP RG2 HB2 HP RH1 RG1 HB1
  have HA := Lib.hid (answers13 w3 (HT.out w3 HB3.out).1 (HT.out w3 HB3.out).2)
  go_wp2_with (first
    | (go_at_call 11; refine HA.out.mono ?_; rintro e w4 ⟨rfl, hw4⟩; have HB4 := Lib.hid (HB3.out.trans (hw4.mono HB3.out.size)); have RG4 := Lib.hid (RG3.out.below hw4); have RP4 := Lib.hid (RP.out.below hw4); have NT := Lib.hid (nil_take g w4); clear hw4)
    | (refine loadRowG rfl 42 _ rfl bG rfl 42 (gca g) (0, 0) RG4.out Tryz.underlying42 rfl (by rw [gca_size]; exact infoG) ?_)
    | (go_at_call 19; refine NT.out.mono ?_; rintro e w5 ⟨rfl, hw5⟩; have HB5 := Lib.hid (HB4.out.trans (hw5.mono HB4.out.size)); have RP5 := Lib.hid (RP4.out.below hw5); have NK := Lib.hid (nil_tick n w5); have heq : ∀ w, (Op.equalIn 10000 60 (.agg (hpa zHp)) (.agg (hpa zHp))).run Tryz.prog w = .ok true w := fun w => (eql_hop zHp zHp w).trans (by rw [hpEq_self]); have hgd := guardHop; clear hw5)
    | (refine loadRowG rfl 60 _ rfl bP rfl 60 (hpa zHp) (0, 0) RP5.out Tryz.underlying60 rfl (by rw [hpa_size]; exact infoHp) ?_)
    | (refine buildHpG rfl rfl ?_)
    | (go_at_call 21; refine NK.out.mono ?_; rintro e w6 ⟨rfl, hw6⟩; have HB6 := Lib.hid (HB5.out.trans (hw6.mono HB5.out.size)); have NB := Lib.hid (nil_base w6); clear hw6)
    | (go_at_call 15; refine NB.out.mono ?_; rintro e w7 ⟨rfl, hw7⟩; have HB7 := Lib.hid (HB6.out.trans (hw7.mono HB6.out.size)); have NV := Lib.hid (nil_View w7); clear hw7)
    | (go_at_call 16; refine NV.out.mono ?_; rintro e w8 ⟨rfl, hw8⟩; have HB8 := Lib.hid (HB7.out.trans (hw8.mono HB7.out.size)); have NO := Lib.hid (nil_open w8); clear hw8)
    | (go_at_call 18; refine NO.out.mono ?_; rintro e w9 ⟨rfl, hw9⟩; have HB9 := Lib.hid (HB8.out.trans (hw9.mono HB8.out.size)); have NI := Lib.hid (ints_nil w9); clear hw9)
    | (go_at_call 24; refine NI.out.mono ?_; rintro e w10 ⟨rfl, hw10⟩; have HB10 := Lib.hid (HB9.out.trans (hw10.mono HB9.out.size)); clear hw10))
  go_ret
  exact ⟨rfl, HB10.out⟩
end Go.Proofs.YtomnpfbebimpkaaGreatDoor
