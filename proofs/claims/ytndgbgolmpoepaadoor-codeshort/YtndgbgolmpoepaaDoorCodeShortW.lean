/-
  The walk of the law CodeShort.
-/
import Derived.Test.YtndgbgolmpoepaaDoorCodAns
namespace Go.Proofs.YtndgbgolmpoepaaDoor
open Go.RowKit

theorem u32_of {n : Int} (h : (Lit.int .u32 n).wf = true) : 0 ≤ n ∧ n < 4294967296 := by
  simp only [Lit.wf, Bool.and_eq_true, decide_eq_true_eq] at h
  have e1 : IntKind.u32.max = 4294967295 := by decide
  have e2 : IntKind.u32.min = 0 := by decide
  rw [e1, e2] at h
  omega
abbrev KN : Kd Int := ⟨3, 50, 1, 8, fun n => [.int .i64 n]⟩
theorem okN : KN.Ok where
  pos := by decide
  len := fun _ => rfl
  one := fun a u hu => by simp only [List.mem_cons, List.not_mem_nil, or_false] at hu; subst hu; rfl
  under := Tryd.underlying50
  info := infoOf (by kernel_rfl) (by kernel_rfl) (by kernel_rfl)
  small := by decide
  room1 := by decide
theorem zeroN : ((Tryd.prog.info? 3).bind (·.zero)).map (·.cells) = some #[Value.int .i64 0] := by kernel_rfl
def kinds : Array Value := #[.int .i64 2, .int .i64 3, .int .i64 4, .int .i64 5, .int .i64 7]
theorem fillK5 : Instr.fill (fun i' => some (i' * 1, 1)) ((Array.range (5 * 1)).map ((#[Value.int .i64 0] : Array Value)[· % (#[Value.int .i64 0] : Array Value).size]!)) [(0, .int .i64 2), (1, .int .i64 3), (2, .int .i64 4), (3, .int .i64 5), (4, .int .i64 7)] = some kinds := by kernel_rfl
theorem kkinds {ops : Array Oper} {rest : List Oper} {o : Oper} {a : Act} {w : World} {Q : Exit → Act → World → Prop} (hg : o.guard = none) (ho : o.op = .buildSlice 50 5 #[(0, .const (.int .i64 2)), (1, .const (.int .i64 3)), (2, .const (.int .i64 4)), (3, .const (.int .i64 5)), (4, .const (.int .i64 7))])
    (h : wpList Tryd.prog ops Q rest (a.put o.dst (.slice (some ⟨w.heap.size, 0, none⟩) 5 5)) (w.alloc (.cells kinds 3))) : wpList Tryd.prog ops Q (o :: rest) a w :=
  kbuild KN okN 5 #[.int .i64 0] zeroN hg _ ho [(0, .int .i64 2), (1, .int .i64 3), (2, .int .i64 4), (3, .int .i64 5), (4, .int .i64 7)] (by simp [Act.eval]) kinds (by decide) (by decide) fillK5 h
theorem bytes5 (k t : Int) : numB 1 k ++ numB 4 t = [k % 256, t / 16777216 % 256, t / 65536 % 256, t / 256 % 256, t % 256] := by
  show [k % 256, t / 256 / 256 / 256 % 256, t / 256 / 256 % 256, t / 256 % 256, t % 256] = _
  rw [show t / 256 / 256 / 256 = t / 16777216 by omega, show t / 256 / 256 = t / 65536 by omega]
set_option maxRecDepth 100000 in
set_option maxHeartbeats 8000000 in
theorem codeShort_of (kd : Int) (id : Int) (hid : 0 ≤ id ∧ id < 4294967296) (c : Nat) (hc5 : c < 5) (k : Int) (hm : kd % 5 = (c : Int)) (hk0 : 0 ≤ kd ∧ kd < 256) (hk : kinds[c]? = some (.int .i64 k)) (hkk : k = 2 ∨ k = 3 ∨ k = 4 ∨ k = 5 ∨ k = 7)
    (w : World) (ht : Tab w) (hz : 0 < w.heap.size) :
    Calls Tryd.prog 7 #[.int .u8 kd, .int .u32 id] w fun e w' => e = .returned (.bool true) ∧ Below w.heap.size w w' := by
  have HT := Lib.hid (fun (W : World) (hb : Below w.heap.size w W) => Env.of ht hz hb)
  have k0 : (w.alloc (.cells kinds 3)).cell? ⟨w.heap.size, c, none⟩ = some (.int .i64 k) := (cell_of_row _ w.heap.size c _ _ _ (Blk.new w kinds 3)).trans hk
  have HB0 := Lib.hid (below1 w (.cells kinds 3))
  have hs := g2_snd k id hkk hid.1 (by omega)
  have HC := Lib.hid (enc_any (g2 k id) (g2_wf k id) (w.alloc (.cells kinds 3)) (g2_in k id _) (HT.out _ HB0.out).tab (HT.out _ HB0.out).lt)
  rw [show encE (g2 k id).u = 0 by unfold encE; rw [if_pos hs], show encV (g2 k id).u = encMs (g2 k id).u by unfold encV; rw [if_pos hs]] at HC
  have HD := Lib.hid (dec_enc hs (g2_wf k id) (g2_can k id))
  have HE := Lib.hid (g2_enc k id hkk)
  have HBy := Lib.hid (encMs_byte (g2 k id).u)
  have HKK := Lib.hid (show k % 256 = k by omega)
  rw [HE.out, bytes5, HKK.out] at HC HD HBy
  have hc0 : (0 : Int) ≤ (c : Int) := by omega
  have hcI : (c : Int) < 5 := by omega
  have hwi : IntKind.i64.wrap id = id := by rw [IntKind.wrap_i64]; omega
  have HID := Lib.hid hid
  clear ht hs hk hid
  go_enter Tryd.func7, Tryd.ntmps7
  go_upto_region 2 with (refine kkinds rfl rfl ?_)
  generalize w.alloc (.cells kinds 3) = W at *
  clear k0
  go_wp2_with (first
    | (refine buildG rfl _ _ rfl k id rfl rfl ?_)
    | (go_at_call 11; refine HC.out.mono ?_; rintro e W1 ⟨v, rfl, ho, hw⟩; refine Hid.out ?_))
  have HB1 := Lib.hid (HB0.out.trans (hw.mono HB0.out.size))
  have HK1 := Lib.hid (ho.lies okB)
  clear hw ho HC HB0
  refine Lib.hid ?_
  go_upto_region 4 with fail
  have HK2 := Lib.hid (HK1.out.below okB (below1 W1 (.cells #[.int .u8 k, .int .u8 (id / 16777216 % 256), .int .u8 (id / 65536 % 256), .int .u8 (id / 256 % 256), .int .u8 (id % 256)] 5)))
  have HB2 := Lib.hid (HB1.out.trans ((below1 W1 (.cells #[.int .u8 k, .int .u8 (id / 16777216 % 256), .int .u8 (id / 65536 % 256), .int .u8 (id / 256 % 256), .int .u8 (id % 256)] 5)).mono HB1.out.size))
  have HW2 := Lib.hid (show KLies KB (.slice (some ⟨W1.heap.size, 0, none⟩) 5 5) [k, id / 16777216 % 256, id / 65536 % 256, id / 256 % 256, id % 256] (W1.alloc (.cells #[.int .u8 k, .int .u8 (id / 16777216 % 256), .int .u8 (id / 65536 % 256), .int .u8 (id / 256 % 256), .int .u8 (id % 256)] 5)) from Blk.klies (K := KB) (l := [k, id / 16777216 % 256, id / 65536 % 256, id / 256 % 256, id % 256]) (Blk.new W1 #[.int .u8 k, .int .u8 (id / 16777216 % 256), .int .u8 (id / 65536 % 256), .int .u8 (id / 256 % 256), .int .u8 (id % 256)] 5) okB rfl)
  clear HK1 HB1
  generalize W1.alloc (.cells #[.int .u8 k, .int .u8 (id / 16777216 % 256), .int .u8 (id / 65536 % 256), .int .u8 (id / 256 % 256), .int .u8 (id % 256)] 5) = W2 at *
  generalize W1.heap.size = B2 at *
  have HC2 := Lib.hid (dec_any (.slice (some ⟨B2, 0, none⟩) 5 5) [k, id / 16777216 % 256, id / 65536 % 256, id / 256 % 256, id % 256] HBy.out W2 HW2.out (HT.out W2 HB2.out).tab (HT.out W2 HB2.out).lt)
  rw [HD.out.1, HD.out.2] at HC2
  go_upto_region 5 with (first
    | (go_at_call 14; refine HC2.out.mono ?_; rintro e W3 ⟨g, rfl, hg, hi, hw⟩; have HG := Lib.hid hg; have HB3 := Lib.hid (HB2.out.trans (hw.mono HB2.out.size)); have HK3 := Lib.hid (HK2.out.below okB hw); have HW3 := Lib.hid (HW2.out.below okB hw); clear hg hi hw)
    | (refine wpList_store_row rfl 33 _ _ rfl W3.heap.size (gca g) rfl rfl 33 _ (heap_alloc_new _ _) (by kernel_rfl) rfl (gca_one _) ?_; rw [World.setRow_alloc_new]))
  have R4 := Lib.hid (Blk.new W3 (gca g) 33)
  have HB4 := Lib.hid (HB3.out.trans ((below1 W3 (.cells (gca g) 33)).mono HB3.out.size))
  have HK4 := Lib.hid (HK3.out.below okB (below1 W3 (.cells (gca g) 33)))
  have HW4 := Lib.hid (HW3.out.below okB (below1 W3 (.cells (gca g) 33)))
  clear HC2 HK2 HK3 HW2 HW3 HB2 HB3
  generalize W3.alloc (.cells (gca g) 33) = W4 at *
  generalize W3.heap.size = B4 at *
  have HC4 := Lib.hid (canswers9 W4 (HT.out W4 HB4.out).tab (HT.out W4 HB4.out).lt)
  go_wp2_with (go_at_call 10; refine HC4.out.mono ?_; rintro e W5 ⟨rfl, hw⟩; refine Hid.out ?_)
  have R5 := Lib.hid (R4.out.below hw)
  have HB5 := Lib.hid (HB4.out.trans (hw.mono HB4.out.size))
  have HC5 := Lib.hid (rsameB_any v (.slice (some ⟨B2, 0, none⟩) 5 5) [k, id / 16777216 % 256, id / 65536 % 256, id / 256 % 256, id % 256] [k, id / 16777216 % 256, id / 65536 % 256, id / 256 % 256, id % 256] (by simp) W5 (HK4.out.below okB hw) (HW4.out.below okB hw))
  rw [decide_eq_true rfl] at HC5
  clear hw HC4 R4 HB4 HK4 HW4
  refine Lib.hid ?_
  go_wp2_with (go_at_call 15; refine HC5.out.mono ?_; rintro e W6 ⟨rfl, hw⟩; refine Hid.out ?_)
  have R6 := Lib.hid (R5.out.below hw)
  have HB6 := Lib.hid (HB5.out.trans (hw.mono HB5.out.size))
  clear hw HC5 R5 HB5
  have q0 := R6.out.cellsG.kind
  have q1 := R6.out.cellsG.txn
  rw [u_kind HG.out] at q0
  rw [u_txn HG.out] at q1
  have q0 : W6.cell? ⟨B4, 0, none⟩ = some (.int .i64 k) := q0
  have q1 : W6.cell? ⟨B4, 1, none⟩ = some (.int .i64 id) := q1
  refine Lib.hid ?_
  go_wp2_with fail
  go_ret
  exact ⟨ret_bool (by show (id == id) = true; simp), HB6.out⟩
theorem codeShort_any (kd : Int) (hk : 0 ≤ kd ∧ kd < 256) (id : Int) (hid : 0 ≤ id ∧ id < 4294967296) (w : World) (ht : Tab w) (hz : 0 < w.heap.size) :
    Calls Tryd.prog 7 #[.int .u8 kd, .int .u32 id] w fun e w' => e = .returned (.bool true) ∧ Below w.heap.size w w' := by
  have h : kd % 5 = 0 ∨ kd % 5 = 1 ∨ kd % 5 = 2 ∨ kd % 5 = 3 ∨ kd % 5 = 4 := by omega
  rcases h with h | h | h | h | h
  · exact codeShort_of kd id hid 0 (by decide) 2 h hk rfl (by decide) w ht hz
  · exact codeShort_of kd id hid 1 (by decide) 3 h hk rfl (by decide) w ht hz
  · exact codeShort_of kd id hid 2 (by decide) 4 h hk rfl (by decide) w ht hz
  · exact codeShort_of kd id hid 3 (by decide) 5 h hk rfl (by decide) w ht hz
  · exact codeShort_of kd id hid 4 (by decide) 7 h hk rfl (by decide) w ht hz
end Go.Proofs.YtndgbgolmpoepaaDoor
