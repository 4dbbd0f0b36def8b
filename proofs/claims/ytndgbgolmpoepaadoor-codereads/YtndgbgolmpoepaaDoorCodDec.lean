/-
  The walk of Decode of package code.
-/
import Derived.Test.YtndgbgolmpoepaaDoorCodRdg
import Derived.Test.YtndgbgolmpoepaaDoorCodEnc
import Derived.Test.YtndgbgolmpoepaaDoorCodEq
namespace Go.Proofs.YtndgbgolmpoepaaDoor
set_option maxRecDepth 20000
open Go.RowKit

/-- a message and an error -/
def DecRet (w : World) (es : Int) (u : Ms) (e : Ending) (w' : World) : Prop := ∃ g : Gm, e = .returned (.tuple #[.agg (gca g), .int .i64 es]) ∧ g.u = u ∧ InG g w' ∧ Below w.heap.size w w'
theorem res_twoG {fn : Func} {p u : Tmp} (h : fn.results = #[.cell p 33, .tmp u]) {tmps : Array Value} {w : World} {g : Nat} {cs : Array Value} {x : Value}
    (hp : tmps.getD p undef = .pointer (some ⟨g, 0, none⟩)) (hx : tmps.getD u undef = x) (hg : Blk g cs 33 w) (hi : cs.size = 48) :
    (results fn tmps).run Tryd.prog w = .ok (.tuple #[.agg cs, x]) w := by
  rw [results_cell_tmp h, hp, hx]
  simp [asAddr, run_loadVar_row w g 33 33 cs (0, 0) _ hg Tryd.underlying33 rfl (by rw [hi]; exact infoG)]
set_option maxHeartbeats 8000000 in
theorem dec_any (v : Value) (l : List Int) (hb : ByL l) (w : World) (hl : KLies KB v l w) (ht : Tab w) (hz : 0 < w.heap.size) :
    Calls Tryd.prog 14 #[v] w (DecRet w (decE l) (decV l)) := by
  obtain ⟨p, c, rfl⟩ := hl.form
  have HT := Lib.hid (fun (W : World) (hb : Below w.heap.size w W) => Env.of ht hz hb)
  have HL := Lib.hid hl
  have HB := Lib.hid hb
  obtain ⟨⟨⟨x, od⟩, ⟨z, sh⟩⟩, hx⟩ : ∃ y, gMs chkP (l, false) = y := ⟨_, rfl⟩
  have hok := gMs_ok (x := (l, false)) chkP hb
  rw [hx] at hok
  have HD := Lib.hid (dec_prog hb hx hok.1 hok.2)
  have HW := Lib.hid hok
  have HX := Lib.hid hx
  clear ht hl hb hx hok
  obtain ⟨n, hn⟩ : ∃ n, n = l.length := ⟨_, rfl⟩
  have HN := Lib.hid hn
  rw [← hn]
  clear hn
  obtain ⟨es, hes⟩ : ∃ es, es = decE l := ⟨_, rfl⟩
  obtain ⟨V, hV⟩ : ∃ V, V = decV l := ⟨_, rfl⟩
  rw [← hes, ← hV] at HD ⊢
  clear hes hV
  go_enter Tryd.func14, Tryd.ntmps14
  go_upto_region 1 with fail
  have R0 := Lib.hid (Blk.new w #[Value.int IntKind.i64 0, Value.int IntKind.i64 0, Value.int IntKind.i64 0, Value.int IntKind.i64 0, Value.int IntKind.u64 0, Value.int IntKind.u64 0, Value.int IntKind.u64 0, Value.int IntKind.u64 0, Value.int IntKind.u64 0, Value.int IntKind.u64 0, Value.int IntKind.u64 0, Value.int IntKind.u64 0, Value.int IntKind.u64 0, Value.int IntKind.u64 0, Value.int IntKind.u64 0, Value.int IntKind.u64 0, Value.int IntKind.u64 0, Value.int IntKind.u64 0, Value.int IntKind.u64 0, Value.int IntKind.u64 0, Value.int IntKind.u64 0, Value.int IntKind.u64 0, Value.int IntKind.u64 0, Value.int IntKind.u64 0, Value.int IntKind.u64 0, Value.int IntKind.u64 0, Value.int IntKind.u64 0, Value.int IntKind.u64 0, Value.int IntKind.i64 0, Value.slice none 0 0, Value.int IntKind.i64 0, Value.int IntKind.i64 0, Value.int IntKind.i64 0, Value.bool false, Value.int IntKind.i64 0, Value.int IntKind.u64 0, Value.int IntKind.u64 0, Value.int IntKind.u64 0, Value.int IntKind.u64 0, Value.int IntKind.u64 0, Value.int IntKind.u64 0, Value.int IntKind.u64 0, Value.int IntKind.u64 0, Value.int IntKind.u64 0, Value.int IntKind.u64 0, Value.int IntKind.u64 0, Value.int IntKind.u64 0, Value.slice none 0 0] 33)
  have K0 := Lib.hid (below1 w (.cells #[Value.int IntKind.i64 0, Value.int IntKind.i64 0, Value.int IntKind.i64 0, Value.int IntKind.i64 0, Value.int IntKind.u64 0, Value.int IntKind.u64 0, Value.int IntKind.u64 0, Value.int IntKind.u64 0, Value.int IntKind.u64 0, Value.int IntKind.u64 0, Value.int IntKind.u64 0, Value.int IntKind.u64 0, Value.int IntKind.u64 0, Value.int IntKind.u64 0, Value.int IntKind.u64 0, Value.int IntKind.u64 0, Value.int IntKind.u64 0, Value.int IntKind.u64 0, Value.int IntKind.u64 0, Value.int IntKind.u64 0, Value.int IntKind.u64 0, Value.int IntKind.u64 0, Value.int IntKind.u64 0, Value.int IntKind.u64 0, Value.int IntKind.u64 0, Value.int IntKind.u64 0, Value.int IntKind.u64 0, Value.int IntKind.u64 0, Value.int IntKind.i64 0, Value.slice none 0 0, Value.int IntKind.i64 0, Value.int IntKind.i64 0, Value.int IntKind.i64 0, Value.bool false, Value.int IntKind.i64 0, Value.int IntKind.u64 0, Value.int IntKind.u64 0, Value.int IntKind.u64 0, Value.int IntKind.u64 0, Value.int IntKind.u64 0, Value.int IntKind.u64 0, Value.int IntKind.u64 0, Value.int IntKind.u64 0, Value.int IntKind.u64 0, Value.int IntKind.u64 0, Value.int IntKind.u64 0, Value.int IntKind.u64 0, Value.slice none 0 0] 33))
  generalize hw : w.alloc (.cells #[Value.int IntKind.i64 0, Value.int IntKind.i64 0, Value.int IntKind.i64 0, Value.int IntKind.i64 0, Value.int IntKind.u64 0, Value.int IntKind.u64 0, Value.int IntKind.u64 0, Value.int IntKind.u64 0, Value.int IntKind.u64 0, Value.int IntKind.u64 0, Value.int IntKind.u64 0, Value.int IntKind.u64 0, Value.int IntKind.u64 0, Value.int IntKind.u64 0, Value.int IntKind.u64 0, Value.int IntKind.u64 0, Value.int IntKind.u64 0, Value.int IntKind.u64 0, Value.int IntKind.u64 0, Value.int IntKind.u64 0, Value.int IntKind.u64 0, Value.int IntKind.u64 0, Value.int IntKind.u64 0, Value.int IntKind.u64 0, Value.int IntKind.u64 0, Value.int IntKind.u64 0, Value.int IntKind.u64 0, Value.int IntKind.u64 0, Value.int IntKind.i64 0, Value.slice none 0 0, Value.int IntKind.i64 0, Value.int IntKind.i64 0, Value.int IntKind.i64 0, Value.bool false, Value.int IntKind.i64 0, Value.int IntKind.u64 0, Value.int IntKind.u64 0, Value.int IntKind.u64 0, Value.int IntKind.u64 0, Value.int IntKind.u64 0, Value.int IntKind.u64 0, Value.int IntKind.u64 0, Value.int IntKind.u64 0, Value.int IntKind.u64 0, Value.int IntKind.u64 0, Value.int IntKind.u64 0, Value.int IntKind.u64 0, Value.slice none 0 0] 33) = W0 at *
  clear hw
  go_upto_region 2 with (refine wpList_store_row rfl 68 _ _ rfl W0.heap.size #[.slice p n c, .bool false] rfl rfl 68 _ (heap_alloc_new _ _) (by kernel_rfl) rfl (by simp [Value.oneCell']) ?_; rw [World.setRow_alloc_new])
  have R1 := Lib.hid (R0.out.old (.cells #[.slice p n c, .bool false] 68))
  have HS1 := Lib.hid (show RdS w W0.heap.size (l, false) (W0.alloc (.cells #[.slice p n c, .bool false] 68)) from ⟨p, c, by rw [← HN.out]; exact Blk.new _ _ _, HL.out, K0.out.trans ((below1 _ _).mono K0.out.size), K0.out.size, HB.out⟩)
  have HNe := Lib.hid (show w.heap.size < W0.heap.size from R0.out.lt)
  clear R0 K0
  generalize W0.alloc (.cells #[.slice p n c, .bool false] 68) = W1 at *
  generalize W0.heap.size = B at *
  have HC1 := Lib.hid (rmsg_read w B (l, false) W1 HS1.out)
  rw [HX.out] at HC1
  go_wp2_with (go_at_call 30; refine HC1.out.mono ?_; rintro e W2 ⟨g, rfl, hg, hi, hs, ht⟩; refine Hid.out ?_)
  have R2 := Lib.hid (ht.blk R1.out (by have := HNe.out; omega))
  have HS2 := Lib.hid hs
  have HG := Lib.hid (show g.u = x from hg)
  have HI2 := Lib.hid hi
  have HBs := Lib.hid (show w.heap.size < W1.heap.size from R1.out.lt)
  clear hs ht hg hi HC1 R1 HS1
  refine Lib.hid ?_
  go_upto_region 3 with (refine wpList_store_row rfl 33 _ _ rfl W2.heap.size (gca g) rfl rfl 33 _ (heap_alloc_new _ _) (by kernel_rfl) rfl (gca_one _) ?_; rw [World.setRow_alloc_new])
  have R3 := Lib.hid (R2.out.old (.cells (gca g) 33))
  have HS3 := Lib.hid (HS2.out.alloc (.cells (gca g) 33))
  have HI3 := Lib.hid (HI2.out.below (below1 W2 (.cells (gca g) 33)))
  have Q3 := Lib.hid (Blk.new W2 (gca g) 33)
  have HNq := Lib.hid (show w.heap.size < W2.heap.size from R2.out.lt)
  clear R2 HS2 HI2
  generalize W2.alloc (.cells (gca g) 33) = W3 at *
  generalize W2.heap.size = B5 at *
  have k1 := HS3.out.short
  cases sh
  rotate_left
  · have HE := Lib.hid (HD.out.1 rfl)
    go_wp2_with (refine wpList_store_row rfl 33 _ _ rfl w.heap.size #[Value.int IntKind.i64 0, Value.int IntKind.i64 0, Value.int IntKind.i64 0, Value.int IntKind.i64 0, Value.int IntKind.u64 0, Value.int IntKind.u64 0, Value.int IntKind.u64 0, Value.int IntKind.u64 0, Value.int IntKind.u64 0, Value.int IntKind.u64 0, Value.int IntKind.u64 0, Value.int IntKind.u64 0, Value.int IntKind.u64 0, Value.int IntKind.u64 0, Value.int IntKind.u64 0, Value.int IntKind.u64 0, Value.int IntKind.u64 0, Value.int IntKind.u64 0, Value.int IntKind.u64 0, Value.int IntKind.u64 0, Value.int IntKind.u64 0, Value.int IntKind.u64 0, Value.int IntKind.u64 0, Value.int IntKind.u64 0, Value.int IntKind.u64 0, Value.int IntKind.u64 0, Value.int IntKind.u64 0, Value.int IntKind.u64 0, Value.int IntKind.i64 0, Value.slice none 0 0, Value.int IntKind.i64 0, Value.int IntKind.i64 0, Value.int IntKind.i64 0, Value.bool false, Value.int IntKind.i64 0, Value.int IntKind.u64 0, Value.int IntKind.u64 0, Value.int IntKind.u64 0, Value.int IntKind.u64 0, Value.int IntKind.u64 0, Value.int IntKind.u64 0, Value.int IntKind.u64 0, Value.int IntKind.u64 0, Value.int IntKind.u64 0, Value.int IntKind.u64 0, Value.int IntKind.u64 0, Value.int IntKind.u64 0, Value.slice none 0 0] rfl rfl 33 _ R3.out (by kernel_rfl) rfl (by simp [Value.oneCell']) ?_)
    refine bodyPost_ret (v := .tuple #[.agg (gca zGm), .int .i64 8]) ?_ rfl ⟨zGm, by rw [HE.out.1], by rw [HE.out.2]; rfl, zGm_in _, below_setRow HS3.out.kept (Nat.le_refl _) _⟩
    exact res_twoG Tryd.results14 (cs := gca zGm) rfl rfl (by rw [← zGca]; exact R3.out.rset _) (gca_size _)
  have HE3 := Lib.hid (HT.out W3 HS3.out.kept)
  have HC3 := Lib.hid (enc_any g (by rw [HG.out]; exact HW.out.1) W3 HI3.out.inG HE3.out.tab HE3.out.lt)
  rw [HG.out] at HC3
  by_cases hsn : sndMs x = true
  rotate_left
  · have HE := Lib.hid (HD.out.2.2 rfl (fun h => hsn h.1))
    have hee : encE x = 2 := by unfold encE; rw [if_neg hsn]
    rw [hee] at HC3
    clear hee
    go_wp2_with (first
      | (refine wpList_load_row rfl 33 _ rfl B5 rfl 33 (gca g) (0, 0) _ Q3.out Tryd.underlying33 rfl (by rw [gca_size]; exact infoG) ?_)
      | (go_at_call 11; refine HC3.out.mono ?_; rintro e W4 ⟨v4, rfl, ho4, hw4⟩; refine Hid.out ?_))
    have R4 := Lib.hid (R3.out.below hw4)
    have K4 := Lib.hid (HS3.out.kept.trans (hw4.mono HS3.out.kept.size))
    clear hw4 ho4 HC3 R3 HS3 Q3 HI3
    refine Lib.hid ?_
    go_wp2_with (refine wpList_store_row rfl 33 _ _ rfl w.heap.size #[Value.int IntKind.i64 0, Value.int IntKind.i64 0, Value.int IntKind.i64 0, Value.int IntKind.i64 0, Value.int IntKind.u64 0, Value.int IntKind.u64 0, Value.int IntKind.u64 0, Value.int IntKind.u64 0, Value.int IntKind.u64 0, Value.int IntKind.u64 0, Value.int IntKind.u64 0, Value.int IntKind.u64 0, Value.int IntKind.u64 0, Value.int IntKind.u64 0, Value.int IntKind.u64 0, Value.int IntKind.u64 0, Value.int IntKind.u64 0, Value.int IntKind.u64 0, Value.int IntKind.u64 0, Value.int IntKind.u64 0, Value.int IntKind.u64 0, Value.int IntKind.u64 0, Value.int IntKind.u64 0, Value.int IntKind.u64 0, Value.int IntKind.u64 0, Value.int IntKind.u64 0, Value.int IntKind.u64 0, Value.int IntKind.u64 0, Value.int IntKind.i64 0, Value.slice none 0 0, Value.int IntKind.i64 0, Value.int IntKind.i64 0, Value.int IntKind.i64 0, Value.bool false, Value.int IntKind.i64 0, Value.int IntKind.u64 0, Value.int IntKind.u64 0, Value.int IntKind.u64 0, Value.int IntKind.u64 0, Value.int IntKind.u64 0, Value.int IntKind.u64 0, Value.int IntKind.u64 0, Value.int IntKind.u64 0, Value.int IntKind.u64 0, Value.int IntKind.u64 0, Value.int IntKind.u64 0, Value.int IntKind.u64 0, Value.slice none 0 0] rfl rfl 33 _ R4.out (by kernel_rfl) rfl (by simp [Value.oneCell']) ?_)
    refine bodyPost_ret (v := .tuple #[.agg (gca zGm), .int .i64 2]) ?_ rfl ⟨zGm, by rw [HE.out.1], by rw [HE.out.2]; rfl, zGm_in _, below_setRow K4.out (Nat.le_refl _) _⟩
    exact res_twoG Tryd.results14 (cs := gca zGm) rfl rfl (by rw [← zGca]; exact R4.out.rset _) (gca_size _)
  have hee : encE x = 0 := by unfold encE; rw [if_pos hsn]
  have hev : encV x = encMs x := by unfold encV; rw [if_pos hsn]
  rw [hee, hev] at HC3
  clear hee hev
  go_wp2_with (first
    | (refine wpList_load_row rfl 33 _ rfl B5 rfl 33 (gca g) (0, 0) _ Q3.out Tryd.underlying33 rfl (by rw [gca_size]; exact infoG) ?_)
    | (go_at_call 11; refine HC3.out.mono ?_; rintro e W4 ⟨v4, rfl, ho4, hw4⟩; refine Hid.out ?_))
  have R4 := Lib.hid (R3.out.below hw4)
  have Q4 := Lib.hid (Q3.out.below hw4)
  have K4 := Lib.hid (HS3.out.kept.trans (hw4.mono HS3.out.kept.size))
  have HI4 := Lib.hid (HI3.out.below hw4)
  have HC4 := Lib.hid (beq_any v4 (.slice p n c) (encMs x) l (encMs_byte x) HB.out W4 (ho4.lies okB) (by rw [HN.out]; exact HL.out.below okB K4.out))
  clear hw4 ho4 HC3 R3 HS3 Q3 HI3
  by_cases heq : encMs x = l
  rotate_left
  · have HE := Lib.hid (HD.out.2.2 (by first | rfl | trivial) (fun h => heq h.2))
    rw [decide_eq_false heq] at HC4
    refine Lib.hid ?_
    go_wp2_with (first
      | (go_at_call 31; refine HC4.out.mono ?_; rintro e W5 ⟨rfl, rfl⟩)
      | (refine wpList_store_row rfl 33 _ _ rfl w.heap.size #[Value.int IntKind.i64 0, Value.int IntKind.i64 0, Value.int IntKind.i64 0, Value.int IntKind.i64 0, Value.int IntKind.u64 0, Value.int IntKind.u64 0, Value.int IntKind.u64 0, Value.int IntKind.u64 0, Value.int IntKind.u64 0, Value.int IntKind.u64 0, Value.int IntKind.u64 0, Value.int IntKind.u64 0, Value.int IntKind.u64 0, Value.int IntKind.u64 0, Value.int IntKind.u64 0, Value.int IntKind.u64 0, Value.int IntKind.u64 0, Value.int IntKind.u64 0, Value.int IntKind.u64 0, Value.int IntKind.u64 0, Value.int IntKind.u64 0, Value.int IntKind.u64 0, Value.int IntKind.u64 0, Value.int IntKind.u64 0, Value.int IntKind.u64 0, Value.int IntKind.u64 0, Value.int IntKind.u64 0, Value.int IntKind.u64 0, Value.int IntKind.i64 0, Value.slice none 0 0, Value.int IntKind.i64 0, Value.int IntKind.i64 0, Value.int IntKind.i64 0, Value.bool false, Value.int IntKind.i64 0, Value.int IntKind.u64 0, Value.int IntKind.u64 0, Value.int IntKind.u64 0, Value.int IntKind.u64 0, Value.int IntKind.u64 0, Value.int IntKind.u64 0, Value.int IntKind.u64 0, Value.int IntKind.u64 0, Value.int IntKind.u64 0, Value.int IntKind.u64 0, Value.int IntKind.u64 0, Value.int IntKind.u64 0, Value.slice none 0 0] rfl rfl 33 _ R4.out (by kernel_rfl) rfl (by simp [Value.oneCell']) ?_))
    refine bodyPost_ret (v := .tuple #[.agg (gca zGm), .int .i64 2]) ?_ rfl ⟨zGm, by rw [HE.out.1], by rw [HE.out.2]; rfl, zGm_in _, below_setRow K4.out (Nat.le_refl _) _⟩
    exact res_twoG Tryd.results14 (cs := gca zGm) rfl rfl (by rw [← zGca]; exact R4.out.rset _) (gca_size _)
  have HE := Lib.hid (HD.out.2.1 (by first | rfl | trivial) ⟨hsn, heq⟩)
  rw [decide_eq_true heq] at HC4
  clear heq hsn
  refine Lib.hid ?_
  go_wp2_with (first
    | (go_at_call 31; refine HC4.out.mono ?_; rintro e W5 ⟨rfl, rfl⟩)
    | (refine wpList_load_row rfl 33 _ rfl B5 rfl 33 (gca g) (0, 0) _ Q4.out Tryd.underlying33 rfl (by rw [gca_size]; exact infoG) ?_)
    | (refine wpList_store_row rfl 33 _ _ rfl w.heap.size (gca g) rfl rfl 33 _ R4.out (by kernel_rfl) rfl (gca_one _) ?_))
  refine bodyPost_ret (v := .tuple #[.agg (gca g), .int .i64 0]) ?_ rfl ⟨g, by rw [HE.out.1], by rw [HE.out.2]; exact HG.out, ?_, below_setRow K4.out (Nat.le_refl _) _⟩
  · exact res_twoG Tryd.results14 (cs := gca g) rfl rfl (R4.out.rset _) (gca_size _)
  · exact (HI4.out.rset HBs.out).inG
end Go.Proofs.YtndgbgolmpoepaaDoor
