/-
  The walk of the reference's Less.
-/
import Derived.Test.YtioiecaklbifnaaDoorRefLesM
namespace Go.Proofs.YtioiecaklbifnaaDoor
open Go.RowKit

set_option maxHeartbeats 1000000 in
theorem rless_unsound (a b : Nat → Int) (wa : Wf a) (wb : Wf b) (hs : (csnd a && csnd b) = false) (w : World) :
    Calls Tryd.prog 28 #[.agg (cc a), .agg (cc b)] w fun e w' => e = .returned (.slice none 0 0) ∧ Below w.heap.size w w' := by
  have S0 := Lib.hid (show WinS w a b ((w.alloc (.cells (cc a) 26)).alloc (.cells (cc b) 26)) from ⟨(Blk.new w (cc a) 26).old _, Blk.new2 w _ _ _, below2 _ _ _⟩)
  have HT := Lib.hid fun W => rtext_any a wa W
  have HW := Lib.hid fun W => rtext_any b wb W
  clear wa wb
  generalize textTo a 12 = X at *
  generalize textTo b 12 = Y at *
  generalize csnd a = k0 at *
  generalize csnd b = k1 at *
  go_enter Tryd.func28, Tryd.ntmps28
  go_wp2_with (refine wpList_load_row rfl 26 _ rfl w.heap.size rfl 26 (cc a) (0, 0) _ S0.out.1 Tryd.underlying26 rfl (by kernel_rfl) ?_)
  refine (HT.out _).mono ?_
  rintro e w1 ⟨rfl, hw1⟩
  have S1 := Lib.hid (WinS.below hw1 S0.out)
  clear hw1 S0 HT
  go_wp2_with (refine wpList_load_row rfl 26 _ rfl (w.heap.size + 1) rfl 26 (cc b) (0, 0) _ S1.out.2.1 Tryd.underlying26 rfl (by kernel_rfl) ?_)
  refine (HW.out _).mono ?_
  rintro e w2 ⟨rfl, hw2⟩
  have S2 := Lib.hid (WinS.below hw2 S1.out)
  clear hw2 S1 HW
  cases k0
  · go_wp2
    go_ret
    exact ⟨rfl, S2.out.2.2⟩
  · cases k1
    · go_wp2
      go_ret
      exact ⟨rfl, S2.out.2.2⟩
    · exact absurd hs (by decide)
set_option maxHeartbeats 1000000 in
theorem rless_apart (a b m : Nat → Int) (wa : Wf a) (wb : Wf b) (hsa : csnd a = true) (hsb : csnd b = true)
    (hm : ∀ W, Calls Tryd.prog 22 #[.agg (cc a), .agg (cc b)] W fun e w' => e = .returned (.tuple #[.agg (cc m), .bool false]) ∧ Below W.heap.size W w') (w : World) :
    Calls Tryd.prog 28 #[.agg (cc a), .agg (cc b)] w (LessRet w [a]) := by
  have S0 := Lib.hid (show WinS w a b ((w.alloc (.cells (cc a) 26)).alloc (.cells (cc b) 26)) from ⟨(Blk.new w (cc a) 26).old _, Blk.new2 w _ _ _, below2 _ _ _⟩)
  have HT := Lib.hid fun W => rtext_any a wa W
  have HW := Lib.hid fun W => rtext_any b wb W
  have HM := Lib.hid hm
  clear wa wb hm
  rw [hsa] at HT
  rw [hsb] at HW
  clear hsa hsb
  generalize textTo a 12 = X at *
  generalize textTo b 12 = Y at *
  go_enter Tryd.func28, Tryd.ntmps28
  go_wp2_with (refine wpList_load_row rfl 26 _ rfl w.heap.size rfl 26 (cc a) (0, 0) _ S0.out.1 Tryd.underlying26 rfl (by kernel_rfl) ?_)
  refine (HT.out _).mono ?_
  rintro e w1 ⟨rfl, hw1⟩
  have S1 := Lib.hid (WinS.below hw1 S0.out)
  clear hw1 S0 HT
  go_wp2_with (refine wpList_load_row rfl 26 _ rfl (w.heap.size + 1) rfl 26 (cc b) (0, 0) _ S1.out.2.1 Tryd.underlying26 rfl (by kernel_rfl) ?_)
  refine (HW.out _).mono ?_
  rintro e w2 ⟨rfl, hw2⟩
  have S2 := Lib.hid (WinS.below hw2 S1.out)
  clear hw2 S1 HW
  go_wp2_with (first
    | (refine wpList_load_row rfl 26 _ rfl w.heap.size rfl 26 (cc a) (0, 0) _ S2.out.1 Tryd.underlying26 rfl (by kernel_rfl) ?_)
    | (refine wpList_load_row rfl 26 _ rfl (w.heap.size + 1) rfl 26 (cc b) (0, 0) _ S2.out.2.1 Tryd.underlying26 rfl (by kernel_rfl) ?_))
  refine (HM.out _).mono ?_
  rintro e w3 ⟨rfl, hw3⟩
  have S3 := Lib.hid (WinS.below (below1 w3 (.cells (cc m) 26)) (WinS.below hw3 S2.out))
  clear hw3 S2 HM
  go_wp2_with (first
    | (refine wpList_store_row rfl 26 _ _ rfl w3.heap.size (cc m) rfl rfl 26 _ (heap_alloc_new _ _) (by kernel_rfl) rfl (cc_one _) ?_; rw [World.setRow_alloc_new])
    | (refine wpList_load_row rfl 26 _ rfl w.heap.size rfl 26 (cc a) (0, 0) _ S3.out.1 Tryd.underlying26 rfl (by kernel_rfl) ?_)
    | (refine buildCube rfl _ rfl a rfl ?_))
  go_ret
  refine ⟨_, rfl, ?_, S3.out.2.2.alloc S3.out.2.2.size _⟩
  have := World.ownsRow_lit (base := w.heap.size) (e := 26) (size := 24) (w3.alloc (.cells (cc m) 26)) (cc a) 1 S3.out.2.2.size (by unfold maxLen; decide) (by rw [cc_size])
  simpa [Owns, flat, cc] using this
/-- the rows of the reference's Less -/
def RLesS (w : World) (g : Nat) (X : List UInt8) (v : Value) (l : List (Nat → Int)) (W : World) : Prop := BufAt g X W ∧ Owns (g + 1) v l W ∧ Below w.heap.size w W
section
variable {w : World} {g : Nat} {X : List UInt8} {v : Value} {l : List (Nat → Int)} {W W' : World}
theorem RLesS.below (hb : Below W.heap.size W W') (s : RLesS w g X v l W) : RLesS w g X v l W' := ⟨s.1.below hb, s.2.1.below hb, s.2.2.trans (hb.mono s.2.2.size)⟩
theorem RLesS.set (hg : w.heap.size ≤ g) (s : RLesS w g X v l W) (j : Nat) (c : UInt8) : RLesS w g (X.set j c) v l (W.setCell ⟨g, j, none⟩ (.int .u8 (c.toNat : Int))) :=
  ⟨s.1.set j c, s.2.1.other fun k hk _ => heap_setCell_other W _ k _ (by show k ≠ g; omega), s.2.2.setCell hg _⟩
theorem RLesS.grown {v' : Value} {x : Nat → Int} (hw : w.heap.size ≤ g) (s : RLesS w g X v l W) (h' : Owns (g + 1) v' (l ++ [x]) W') (hg : W.grownBy W' v.ownBlock) : RLesS w g X v' (l ++ [x]) W' := by
  have hge := s.2.1.ge
  have hl := s.1.lt
  obtain ⟨cs, h1, h2⟩ := s.1
  refine ⟨⟨cs, (hg.block g hl fun e => by have := hge g e.symm; omega).trans h1, h2⟩, h', s.2.2.grown hg s.2.2.size fun k e => by have := hge k e; omega⟩
end
set_option maxHeartbeats 4000000 in
theorem rless_loop (a b m : Nat → Int) (wa : Wf a) (wb : Wf b) (hsa : csnd a = true) (hsb : csnd b = true) (T : List (Nat → Int)) (hT : goFields b 12 a = T) (hlen : T.length ≤ 1000)
    (hm : ∀ W, Calls Tryd.prog 22 #[.agg (cc a), .agg (cc b)] W fun e w' => e = .returned (.tuple #[.agg (cc m), .bool true]) ∧ Below W.heap.size W w') (w : World) :
    Calls Tryd.prog 28 #[.agg (cc a), .agg (cc b)] w (LessRet w T) := by
  have S0 := Lib.hid (show WinS w a b ((w.alloc (.cells (cc a) 26)).alloc (.cells (cc b) 26)) from ⟨(Blk.new w (cc a) 26).old _, Blk.new2 w _ _ _, below2 _ _ _⟩)
  have HT := Lib.hid fun W => rtext_any a wa W
  have HW := Lib.hid fun W => rtext_any b wb W
  have HM := Lib.hid hm
  have HL0 := Lib.hid (LState.start wa wb hsa hsb)
  rw [hT] at HL0
  have HST := Lib.hid fun (p : Nat) (c : Nat → Int) (l : List (Nat → Int)) (h : LState a b T p c l) (hp : p < 248) => LState.step wa wb hsb h hp
  have HLX := Lib.hid (text_len a)
  have HLY := Lib.hid (text_len b)
  clear wa wb hm hT
  rw [hsa] at HT
  rw [hsb] at HW
  clear hsa hsb
  have HXA := Lib.hid (show textTo a 12 = textTo a 12 ∧ True from ⟨rfl, trivial⟩)
  generalize hX : textTo a 12 = X at *
  generalize textTo b 12 = Y at *
  have HX := Lib.hid hX
  clear hX HXA
  go_enter Tryd.func28, Tryd.ntmps28
  go_wp2_with (refine wpList_load_row rfl 26 _ rfl w.heap.size rfl 26 (cc a) (0, 0) _ S0.out.1 Tryd.underlying26 rfl (by kernel_rfl) ?_)
  refine (HT.out _).mono ?_
  rintro e w1 ⟨rfl, hw1⟩
  have S1 := Lib.hid (WinS.below hw1 S0.out)
  clear hw1 S0 HT
  go_wp2_with (refine wpList_load_row rfl 26 _ rfl (w.heap.size + 1) rfl 26 (cc b) (0, 0) _ S1.out.2.1 Tryd.underlying26 rfl (by kernel_rfl) ?_)
  refine (HW.out _).mono ?_
  rintro e w2 ⟨rfl, hw2⟩
  have S2 := Lib.hid (WinS.below hw2 S1.out)
  clear hw2 S1 HW
  go_wp2_with (first
    | (refine wpList_load_row rfl 26 _ rfl w.heap.size rfl 26 (cc a) (0, 0) _ S2.out.1 Tryd.underlying26 rfl (by kernel_rfl) ?_)
    | (refine wpList_load_row rfl 26 _ rfl (w.heap.size + 1) rfl 26 (cc b) (0, 0) _ S2.out.2.1 Tryd.underlying26 rfl (by kernel_rfl) ?_))
  refine (HM.out _).mono ?_
  rintro e w3 ⟨rfl, hw3⟩
  have S3 := Lib.hid (WinS.below (below1 w3 (.cells (cc m) 26)) (WinS.below hw3 S2.out))
  clear hw3 S2 HM
  obtain ⟨cap, W4, hconv, hbuf, hbel⟩ := toBytes X (w3.alloc (.cells (cc m) 26))
  have hgw : w.heap.size ≤ w3.heap.size + 1 := by have := S3.out.2.2.size; simpa using this
  rw [World.size_alloc] at hbuf hconv
  have R4 := Lib.hid (show RLesS w (w3.heap.size + 1) X (.slice none 0 0) [] W4 from ⟨hbuf, Owns.nil _ _, (WinS.below hbel S3.out).2.2⟩)
  clear S3 hbuf hbel
  go_wp2_with (refine wpList_store_row rfl 26 _ _ rfl w3.heap.size (cc m) rfl rfl 26 _ (heap_alloc_new _ _) (by kernel_rfl) rfl (cc_one _) ?_; rw [World.setRow_alloc_new])
  clear hconv
  generalize w3.heap.size + 1 = g at *
  go_loopg [13, 11] 248 (fun gk i out wr => ∃ (p : Nat) (c : Nat → Int) (l : List (Nat → Int)), p + gk = 248 ∧ i = .int .i64 p ∧ LState a b T p c l ∧ RLesS w g (textTo c 12) out l wr)
  case atStart => exact ⟨0, a, [], by omega, rfl, HL0.out, by rw [HX.out]; exact R4.out⟩
  case round =>
    clear R4 HL0
    obtain ⟨p, c, l, hp, rfl, hls, hR⟩ := hrel
    have HLS := Lib.hid hls
    have HR := Lib.hid hR
    clear hls hR
    by_cases hlt : p < 248
    · have hlen0 : p < X.length := by have := HLX.out; omega
      have hlenI : (p : Int) < (X.length : Int) := by omega
      have hdI : decide ((p : Int) < (X.length : Int)) = true := decide_eq_true hlenI
      have ix := idxText (getD_at hlen0)
      have iy := idxText (getD_at (X := Y) (r := p) (by have := HLY.out; omega))
      obtain ⟨va, vb, ca, cb, hxa, hyb, wc, sc, hskip, htake⟩ := HST.out p c l HLS.out hlt
      rw [hxa] at ix
      rw [hyb] at iy
      clear hxa hyb wc sc
      cases ca
      · cases cb
        · rw [show ((chT va false).toNat : Int) = 120 by cases va <;> rfl] at ix
          rw [show ((chT vb false).toNat : Int) = 120 by cases vb <;> rfl] at iy
          have HS := Lib.hid (hskip rfl)
          clear hskip htake HLS
          go_wp2_with fail
          go_roundg (248 - (p + 1))
          case measure => omega
          case rel => exact ⟨p + 1, c, l, by omega, by go_num, HS.out, HR.out⟩
        · rw [show ((chT va false).toNat : Int) = 120 by cases va <;> rfl] at ix
          obtain ⟨c1, c2, w1', s1', t1, t2, hs2⟩ := htake rfl
          have HF := Lib.hid fun W => rfrom_any c1 w1' s1' W
          have HS := Lib.hid hs2
          have R5 := Lib.hid (HR.out.set hgw p (chT (!vb) true))
          rw [t1] at R5
          have HT2 := Lib.hid t2
          have hl : l.length ≤ 1000000 := by
            obtain ⟨_, _, _, _, _, _, e, _⟩ := HLS.out
            have := congrArg List.length e
            rw [List.length_append] at this
            omega
          have hlp : p < (textTo c 12).length := by rw [text_len]; exact hlt
          have k1 := HR.out.1.cell (getD_at hlp)
          have f1 := HR.out.1.frozen hlp
          generalize (textTo c 12).getD p 0 = old at *
          clear hskip htake HLS w1' s1' t1 t2 hs2
          cases vb
          · rw [show ((chT false true).toNat : Int) = 48 from rfl] at iy
            rw [show ((chT (!false) true).toNat : Int) = 49 from rfl] at R5
            have hcv := conv_buf (cap := cap) R5.out.1 (show X.length = _ by rw [text_len, HLX.out])
            go_wp2_with fail
            clear hcv k1 f1
            refine (HF.out _).mono ?_
            rintro e w5 ⟨rfl, hw5⟩
            have R6 := Lib.hid (RLesS.below (below1 w5 (.cells (cc c1) 26)) (RLesS.below hw5 R5.out))
            have B6 := Lib.hid (Blk.new w5 (cc c1) 26)
            have hb6 : g + 1 ≤ (w5.alloc (.cells (cc c1) 26)).heap.size := R6.out.1.lt
            clear hw5 R5 HR HF
            go_upto_region 16 with (first
              | (refine buildCube rfl _ rfl c1 rfl ?_)
              | (refine appendCube rfl _ _ rfl (g + 1) u11 l c1 rfl R6.out.2.1 w5.heap.size rfl B6.out hb6 hl (fun v' w' ho hg => ?_)))
            have R7 := Lib.hid (R6.out.grown hgw ho hg)
            clear R6 B6 ho hg hb6
            have hlp1 : p < (textTo c1 12).length := by rw [text_len]; exact hlt
            have k2 := R7.out.1.cell (getD_at hlp1)
            have f2 := R7.out.1.frozen hlp1
            generalize (textTo c1 12).getD p 0 = old2 at *
            have R8 := Lib.hid (R7.out.set hgw p (chT false true))
            rw [HT2.out, show ((chT false true).toNat : Int) = 48 from rfl] at R8
            go_wp2_with fail
            clear k2 f2
            go_roundg (248 - (p + 1))
            case measure => omega
            case rel => exact ⟨p + 1, c2, l ++ [c1], by omega, by go_num, HS.out, R8.out⟩
          · rw [show ((chT true true).toNat : Int) = 49 from rfl] at iy
            rw [show ((chT (!true) true).toNat : Int) = 48 from rfl] at R5
            have hcv := conv_buf (cap := cap) R5.out.1 (show X.length = _ by rw [text_len, HLX.out])
            go_wp2_with fail
            clear hcv k1 f1
            refine (HF.out _).mono ?_
            rintro e w5 ⟨rfl, hw5⟩
            have R6 := Lib.hid (RLesS.below (below1 w5 (.cells (cc c1) 26)) (RLesS.below hw5 R5.out))
            have B6 := Lib.hid (Blk.new w5 (cc c1) 26)
            have hb6 : g + 1 ≤ (w5.alloc (.cells (cc c1) 26)).heap.size := R6.out.1.lt
            clear hw5 R5 HR HF
            go_upto_region 16 with (first
              | (refine buildCube rfl _ rfl c1 rfl ?_)
              | (refine appendCube rfl _ _ rfl (g + 1) u11 l c1 rfl R6.out.2.1 w5.heap.size rfl B6.out hb6 hl (fun v' w' ho hg => ?_)))
            have R7 := Lib.hid (R6.out.grown hgw ho hg)
            clear R6 B6 ho hg hb6
            have hlp1 : p < (textTo c1 12).length := by rw [text_len]; exact hlt
            have k2 := R7.out.1.cell (getD_at hlp1)
            have f2 := R7.out.1.frozen hlp1
            generalize (textTo c1 12).getD p 0 = old2 at *
            have R8 := Lib.hid (R7.out.set hgw p (chT true true))
            rw [HT2.out, show ((chT true true).toNat : Int) = 49 from rfl] at R8
            go_wp2_with fail
            clear k2 f2
            go_roundg (248 - (p + 1))
            case measure => omega
            case rel => exact ⟨p + 1, c2, l ++ [c1], by omega, by go_num, HS.out, R8.out⟩
      · have hnx : (((chT va true).toNat : Int) != 120) = true := by cases va <;> rfl
        have HS := Lib.hid (hskip rfl)
        clear hskip htake HLS
        generalize ((chT va true).toNat : Int) = nx at *
        go_wp2_with fail
        go_roundg (248 - (p + 1))
        case measure => omega
        case rel => exact ⟨p + 1, c, l, by omega, by go_num, HS.out, HR.out⟩
    · obtain rfl : p = 248 := by omega
      have hlenI : ¬ 248 < X.length := by have := HLX.out; omega
      have hdI : decide ((248 : Int) < (X.length : Int)) = false := decide_eq_false (by have := HLX.out; omega)
      have HD := Lib.hid HLS.out.done
      go_wp2
      go_ret
      exact ⟨_, rfl, by rw [← HD.out]; exact HR.out.2.1.mono (by omega), HR.out.2.2⟩
theorem rless_any (a b : Nat → Int) (ha : Wf a) (hb : Wf b) (w : World) :
    Calls Tryd.prog 28 #[.agg (cc a), .agg (cc b)] w (LessRet w (lessL a b)) := by
  cases hs : (csnd a && csnd b)
  · refine (rless_unsound a b ha hb hs w).mono fun e w' ⟨he, hB⟩ => ⟨_, he, ?_, hB⟩
    unfold lessL
    rw [hs]
    exact Owns.nil _ _
  · obtain ⟨sa, sb⟩ : csnd a = true ∧ csnd b = true := by simpa using hs
    have hm := fun W => rmeet_any a b ha hb W
    cases hq : metB a b
    · rw [hq] at hm
      have : lessL a b = [a] := by simp [lessL, sa, sb, hq]
      rw [this]
      exact rless_apart a b _ ha hb sa sb hm w
    · rw [hq] at hm
      have : lessL a b = goFields b 12 a := by simp [lessL, sa, sb, hq]
      rw [this]
      exact rless_loop a b _ ha hb sa sb _ rfl (by have := goFields_len b 12 a; omega) hm w
end Go.Proofs.YtioiecaklbifnaaDoor
