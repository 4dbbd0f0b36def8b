/-
  What the laws on messages share: slices of one message, the message's box.
-/
import Derived.Test.YtndgbgolmpoepaaDoorCodRenW
import Derived.Test.YtndgbgolmpoepaaDoorCodRmt
import Derived.Test.YtndgbgolmpoepaaDoorCodSms
import Derived.Test.YtndgbgolmpoepaaDoorCodArg
import Derived.Test.YtndgbgolmpoepaaDoorCodAns
namespace Go.Proofs.YtndgbgolmpoepaaDoor
set_option maxRecDepth 20000
open Go.RowKit

theorem zeroG : ((Tryd.prog.info? 33).bind (·.zero)).map (·.cells) = some #[Value.int IntKind.i64 0, Value.int IntKind.i64 0, Value.int IntKind.i64 0, Value.int IntKind.i64 0, Value.int IntKind.u64 0, Value.int IntKind.u64 0, Value.int IntKind.u64 0, Value.int IntKind.u64 0, Value.int IntKind.u64 0, Value.int IntKind.u64 0, Value.int IntKind.u64 0, Value.int IntKind.u64 0, Value.int IntKind.u64 0, Value.int IntKind.u64 0, Value.int IntKind.u64 0, Value.int IntKind.u64 0, Value.int IntKind.u64 0, Value.int IntKind.u64 0, Value.int IntKind.u64 0, Value.int IntKind.u64 0, Value.int IntKind.u64 0, Value.int IntKind.u64 0, Value.int IntKind.u64 0, Value.int IntKind.u64 0, Value.int IntKind.u64 0, Value.int IntKind.u64 0, Value.int IntKind.u64 0, Value.int IntKind.u64 0, Value.int IntKind.i64 0, Value.slice none 0 0, Value.int IntKind.i64 0, Value.int IntKind.i64 0, Value.int IntKind.i64 0, Value.bool false, Value.int IntKind.i64 0, Value.int IntKind.u64 0, Value.int IntKind.u64 0, Value.int IntKind.u64 0, Value.int IntKind.u64 0, Value.int IntKind.u64 0, Value.int IntKind.u64 0, Value.int IntKind.u64 0, Value.int IntKind.u64 0, Value.int IntKind.u64 0, Value.int IntKind.u64 0, Value.int IntKind.u64 0, Value.int IntKind.u64 0, Value.slice none 0 0] := by kernel_rfl
theorem fillG (g : Gm) : Instr.fill (fun i' => some (i' * 48, 48)) ((Array.range (1 * 48)).map ((#[Value.int IntKind.i64 0, Value.int IntKind.i64 0, Value.int IntKind.i64 0, Value.int IntKind.i64 0, Value.int IntKind.u64 0, Value.int IntKind.u64 0, Value.int IntKind.u64 0, Value.int IntKind.u64 0, Value.int IntKind.u64 0, Value.int IntKind.u64 0, Value.int IntKind.u64 0, Value.int IntKind.u64 0, Value.int IntKind.u64 0, Value.int IntKind.u64 0, Value.int IntKind.u64 0, Value.int IntKind.u64 0, Value.int IntKind.u64 0, Value.int IntKind.u64 0, Value.int IntKind.u64 0, Value.int IntKind.u64 0, Value.int IntKind.u64 0, Value.int IntKind.u64 0, Value.int IntKind.u64 0, Value.int IntKind.u64 0, Value.int IntKind.u64 0, Value.int IntKind.u64 0, Value.int IntKind.u64 0, Value.int IntKind.u64 0, Value.int IntKind.i64 0, Value.slice none 0 0, Value.int IntKind.i64 0, Value.int IntKind.i64 0, Value.int IntKind.i64 0, Value.bool false, Value.int IntKind.i64 0, Value.int IntKind.u64 0, Value.int IntKind.u64 0, Value.int IntKind.u64 0, Value.int IntKind.u64 0, Value.int IntKind.u64 0, Value.int IntKind.u64 0, Value.int IntKind.u64 0, Value.int IntKind.u64 0, Value.int IntKind.u64 0, Value.int IntKind.u64 0, Value.int IntKind.u64 0, Value.int IntKind.u64 0, Value.slice none 0 0] : Array Value)[· % (#[Value.int IntKind.i64 0, Value.int IntKind.i64 0, Value.int IntKind.i64 0, Value.int IntKind.i64 0, Value.int IntKind.u64 0, Value.int IntKind.u64 0, Value.int IntKind.u64 0, Value.int IntKind.u64 0, Value.int IntKind.u64 0, Value.int IntKind.u64 0, Value.int IntKind.u64 0, Value.int IntKind.u64 0, Value.int IntKind.u64 0, Value.int IntKind.u64 0, Value.int IntKind.u64 0, Value.int IntKind.u64 0, Value.int IntKind.u64 0, Value.int IntKind.u64 0, Value.int IntKind.u64 0, Value.int IntKind.u64 0, Value.int IntKind.u64 0, Value.int IntKind.u64 0, Value.int IntKind.u64 0, Value.int IntKind.u64 0, Value.int IntKind.u64 0, Value.int IntKind.u64 0, Value.int IntKind.u64 0, Value.int IntKind.u64 0, Value.int IntKind.i64 0, Value.slice none 0 0, Value.int IntKind.i64 0, Value.int IntKind.i64 0, Value.int IntKind.i64 0, Value.bool false, Value.int IntKind.i64 0, Value.int IntKind.u64 0, Value.int IntKind.u64 0, Value.int IntKind.u64 0, Value.int IntKind.u64 0, Value.int IntKind.u64 0, Value.int IntKind.u64 0, Value.int IntKind.u64 0, Value.int IntKind.u64 0, Value.int IntKind.u64 0, Value.int IntKind.u64 0, Value.int IntKind.u64 0, Value.int IntKind.u64 0, Value.slice none 0 0] : Array Value).size]!)) [(0, .agg (gca g))] = some (gca g) := by kernel_rfl
/-- a slice of one element, written out behind a guard that says yes -/
theorem kbuildOneG {α : Type} (K : Kd α) (ok : K.Ok) (zs : Array Value) (hzs : ((Tryd.prog.info? K.T).bind (·.zero)).map (·.cells) = some zs) {ops : Array Oper} {rest : List Oper} {o : Oper} {a : Act} {w : World} {Q : Exit → Act → World → Prop} (hw : Region.wanted o (yielded ops a.tmps) = true)
    (x : Operand) (ho : o.op = .buildSlice K.S 1 #[(0, x)]) (cs : Array Value) (hx : a.eval x = .agg cs) (hsm : 1 * K.n ≤ 1000) (hf : Instr.fill (fun i' => some (i' * K.n, K.n)) ((Array.range (1 * K.n)).map (zs[· % zs.size]!)) [(0, .agg cs)] = some cs)
    (h : wpList Tryd.prog ops Q rest (a.put o.dst (.slice (some ⟨w.heap.size, 0, none⟩) 1 1)) (w.alloc (.cells cs K.T))) : wpList Tryd.prog ops Q (o :: rest) a w :=
  wpList_step fun _ hK => by rw [if_pos hw]; exact kbuildOneWp K ok zs hzs x ho cs hx hsm hf (hK _ _ h)
theorem oneG (g : Gm) (W : World) : KLies KG (.slice (some ⟨W.heap.size, 0, none⟩) 1 1) [g] (W.alloc (.cells (gca g) 33)) := Blk.klies (K := KG) (l := [g]) (Blk.new W (gca g) KG.T) okG (by simp [Kd.flat, gca])
theorem msEq_self (x : Ms) (h : CanMs x) : msEq x x = true := (msEq_iff h h).2 rfl
/-- the same messages are those with the same bytes -/
theorem msEq_bytes {x y : Ms} (hx : sndMs x = true) (hy : sndMs y = true) (wx : WfMs x) (wy : WfMs y) (cx : CanMs x) (cy : CanMs y) : msEq x y = decide (encMs x = encMs y) := by
  by_cases h : encMs x = encMs y
  · rw [decide_eq_true h]
    exact (msEq_iff cx cy).2 (enc_inj hx hy wx wy cx cy h)
  · rw [decide_eq_false h]
    cases hm : msEq x y
    · rfl
    · exact absurd (by rw [(msEq_iff cx cy).1 hm]) h
theorem enc_len {x : Ms} (hs : sndMs x = true) (hw : WfMs x) : (encMs x).length ≤ 300000000 := by
  have h0 : (encN [(1, x.kind), (4, x.txn)]).length = 5 := by show (numB 1 x.kind ++ (numB 4 x.txn ++ [])).length = 5; simp only [List.length_append, numB_len, List.length_nil]
  unfold encMs bodyL
  rw [List.length_append, h0]
  split
  · rename_i hk
    have hf := fitA_of (snd_mod (sndk_1 hs hk)).1 hw.mod.a
    have h1 := encA_len x.mod.acts
    have h2 := hf.1
    unfold encM
    rw [List.length_append]
    have h3 : (encN (modN x.mod)).length = 205 := by
      show (numB 1 x.mod.kind ++ encN (cubeN x.mod.m ++ [(2, x.mod.p), (4, x.mod.idle), (4, x.mod.hard), (1, x.mod.owner), (1, if x.mod.chk then 1 else 0)])).length = 205
      rw [List.length_append, numB_len, encN_app, List.length_append, cubeN_len]
      show 1 + (192 + (numB 2 x.mod.p ++ (numB 4 x.mod.idle ++ (numB 4 x.mod.hard ++ (numB 1 x.mod.owner ++ (numB 1 (if x.mod.chk then 1 else 0) ++ []))))).length) = 205
      simp only [List.length_append, numB_len, List.length_nil]
    omega
  · split
    · rw [numB_len]; decide
    · split
      · show 5 + (numB 1 x.port ++ encN (headN x.head)).length ≤ _
        rw [List.length_append, numB_len, headN_len]
        decide
      · split
        · rename_i hk
          obtain ⟨h1, h2⟩ := sndk_9 hs hk
          have h3 := flatM_le encR (c := 3100) x.rules fun u hu => encR_len u (by have := acts_len (snd_rule (h2 u hu)).1; omega)
          rw [List.length_append, numB_len]
          omega
        · decide
theorem enc_ne (x : Ms) : 5 ≤ (encMs x).length := by
  have h0 : (encN [(1, x.kind), (4, x.txn)]).length = 5 := by show (numB 1 x.kind ++ (numB 4 x.txn ++ [])).length = 5; simp only [List.length_append, numB_len, List.length_nil]
  unfold encMs
  rw [List.length_append, h0]
  omega
end Go.Proofs.YtndgbgolmpoepaaDoor
