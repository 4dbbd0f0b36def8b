/-
  The walk of the law ActSame.
-/
import Derived.Test.YtpcacgfhjheiiaaDoorActRunsW
namespace Go.Proofs.YtpcacgfhjheiiaaDoor
open Go.RowKit

theorem eq_lenB {a b : Nat} (h : a = b) : ((a : Int) == (b : Int)) = true := by simp; omega
theorem ne_lenB {a b : Nat} (h : a ≠ b) : ((a : Int) == (b : Int)) = false := by simp; omega
theorem aEqL_self (l : List Ac) : aEqL l l = true := (aEqL_iff l l).2 rfl
/-- what the law has in memory -/
def SaS (w0 : World) (va vb : Value) (a b : List Ac) (vx vy : Value) (X Y : List Sn) (W : World) : Prop := KLies KA va a W ∧ KLies KA vb b W ∧ KLies KS vx X W ∧ KLies KS vy Y W ∧ Below w0.heap.size w0 W
theorem SaS.below {w0 : World} {va vb : Value} {a b : List Ac} {vx vy : Value} {X Y : List Sn} {W W' : World} (hb : Below W.heap.size W W') (s : SaS w0 va vb a b vx vy X Y W) : SaS w0 va vb a b vx vy X Y W' :=
  ⟨s.1.below okA hb, s.2.1.below okA hb, s.2.2.1.below okS hb, s.2.2.2.1.below okS hb, s.2.2.2.2.trans (hb.mono s.2.2.2.2.size)⟩
set_option maxHeartbeats 1000000 in
set_option maxRecDepth 100000 in
theorem actSame_many (p q : Option Addr) (cp cq n m : Nat) (h : Nat → Int) (w0 : World) (ht : Tab w0) (hz : 0 < w0.heap.size) (hn : ¬ (n ≤ 20 ∧ m ≤ 20)) :
    Calls Tryd.prog 4 #[.slice p n cp, .slice q m cq, .agg (hc h)] w0 fun e w' => e = .returned (.bool true) ∧ Below w0.heap.size w0 w' := by
  have hE := (Env.start ht hz).alloc (.cells (hc h) 25)
  have HA := Lib.hid (aanswers _ hE.tab hE.lt)
  have HE := Lib.hid hE
  clear ht hE
  by_cases hI : (20 : Int) < (n : Int)
  · clear hn
    go_enter Tryd.func4, Tryd.ntmps4
    go_wp2_with (go_at_call 7; refine HA.out.mono ?_; rintro e w1 ⟨rfl, hw1⟩)
    go_ret
    exact ⟨rfl, (HE.out.below hw1).kept⟩
  · have hJ : (20 : Int) < (m : Int) := by omega
    clear hn
    go_enter Tryd.func4, Tryd.ntmps4
    go_wp2_with (go_at_call 7; refine HA.out.mono ?_; rintro e w1 ⟨rfl, hw1⟩)
    go_ret
    exact ⟨rfl, (HE.out.below hw1).kept⟩
set_option maxHeartbeats 1000000 in
set_option maxRecDepth 100000 in
theorem actSame_few (p q : Option Addr) (cp cq : Nat) (a b : List Ac) (h : Nat → Int) (hla : a.length ≤ 20) (hlb : b.length ≤ 20) (hwa : WfAL a) (hwb : WfAL b) (w0 : World) (ha : KLies KA (.slice p a.length cp) a w0) (hb : KLies KA (.slice q b.length cq) b w0) (ht : Tab w0) (hz : 0 < w0.heap.size) :
    Calls Tryd.prog 4 #[.slice p a.length cp, .slice q b.length cq, .agg (hc h)] w0 fun e w' => e = .returned (.bool true) ∧ Below w0.heap.size w0 w' := by
  have hE := Env.start ht hz
  have HA := Lib.hid (fun (W : World) (hb : Below w0.heap.size w0 W) => aanswers W (hE.predK W hb).1 (hE.predK W hb).2)
  have HRa := Lib.hid (fun (v : Value) (W : World) (lv : KLies KA v a W) (hb : Below w0.heap.size w0 W) => run_any v a h (by omega) hwa W lv (hE.predK W hb).1 (hE.predK W hb).2)
  have HRb := Lib.hid (fun (v : Value) (W : World) (lv : KLies KA v b W) (hb : Below w0.heap.size w0 W) => run_any v b h (by omega) hwb W lv (hE.predK W hb).1 (hE.predK W hb).2)
  have HSm := Lib.hid (fun (v u : Value) (W : World) (lv : KLies KA v a W) (lu : KLies KA u b W) => asame_any v u a b (by omega) W lv lu)
  have HSa := Lib.hid (fun (v u : Value) (W : World) (lv : KLies KA v a W) (lu : KLies KA u a W) => asame_any v u a a (by omega) W lv lu)
  have HRs := Lib.hid (fun (v u : Value) (W : World) (lv : KLies KA v a W) (lu : KLies KA u b W) => rsameA_any v u a b (by omega) W lv lu)
  rw [aEqL_self] at HSa
  have HL := Lib.hid (And.intro (ha.below okA (below1 w0 (.cells (hc h) 25))) (hb.below okA (below1 w0 (.cells (hc h) 25))))
  have HB1 := Lib.hid (below1 w0 (.cells (hc h) 25))
  have RH := Lib.hid (Blk.new w0 (hc h) 25)
  have HXl := Lib.hid (Nat.le_trans (runV_len a h) hla)
  have HXY := Lib.hid (show aEqL a b = true → runV a h = runV b h ∧ runB a = runB b from fun e => by rw [(aEqL_iff a b).1 e]; exact ⟨rfl, rfl⟩)
  have hI : ¬ (20 : Int) < (a.length : Int) := by omega
  have hJ : ¬ (20 : Int) < (b.length : Int) := by omega
  clear ha hb hwa hwb ht hE
  go_enter Tryd.func4, Tryd.ntmps4
  go_upto_region 3 with (fail)
  clear hI hJ
  generalize hX : runV a h = X at *
  generalize hY : runV b h = Y at *
  generalize hT : runB a = t at *
  generalize hU : runB b = u at *
  generalize hZ : aEqL a b = z at *
  generalize w0.alloc (.cells (hc h) 25) = W0 at *
  go_upto_region 4 with (first
    | (refine wpList_load_row rfl 25 (.tmp 5) rfl w0.heap.size rfl 25 (hc h) (0, 0) _ RH.out Tryd.underlying25 rfl (by kernel_rfl) ?_)
    | (go_at_call 8; refine (HRa.out _ _ HL.out.1 HB1.out).mono ?_; rintro e w7 ⟨vx, rfl, ho7, hb7⟩))
  have HX := Lib.hid (ho7.lies okS)
  have HB2 := Lib.hid (HB1.out.trans (hb7.mono HB1.out.size))
  have HL2 := Lib.hid (And.intro (HL.out.1.below okA hb7) (HL.out.2.below okA hb7))
  have RH2 := Lib.hid (RH.out.below hb7)
  clear ho7 hb7 HL RH HB1 HRa
  go_upto_region 5 with (first
    | (refine wpList_load_row rfl 25 (.tmp 5) rfl w0.heap.size rfl 25 (hc h) (0, 0) _ RH2.out Tryd.underlying25 rfl (by kernel_rfl) ?_)
    | (go_at_call 8; refine (HRb.out _ _ HL2.out.2 HB2.out).mono ?_; rintro e w8 ⟨vy, rfl, ho8, hb8⟩))
  have HSU := Lib.hid (show SaS w0 (.slice p a.length cp) (.slice q b.length cq) a b vx vy X Y w8 from ⟨HL2.out.1.below okA hb8, HL2.out.2.below okA hb8, HX.out.below okS hb8, ho8.lies okS, HB2.out.trans (hb8.mono HB2.out.size)⟩)
  clear ho8 hb8 HX HL2 RH2 HB2 HRb hX hY hT hU hZ
  obtain ⟨px, cx, rfl⟩ := HSU.out.2.2.1.form
  obtain ⟨py, cy, rfl⟩ := HSU.out.2.2.2.1.form
  go_cut [11] (fun s W => ∃ y : Bool, s = .bool y ∧ (y = true → X.length = Y.length) ∧ (z = true → y = true) ∧ SaS w0 (.slice p a.length cp) (.slice q b.length cq) a b (.slice px X.length cx) (.slice py Y.length cy) X Y W)
  case first =>
    by_cases hxy : X.length = Y.length
    · have hd := eq_lenB hxy
      have HXe := Lib.hid hxy
      clear hxy
      go_wp2_with fail
      go_meet
      case rel => exact ⟨_, rfl, fun _ => HXe.out, fun e => by rw [(HXY.out e).2]; simp, HSU.out⟩
    · have hd := ne_lenB hxy
      have HXe := Lib.hid hxy
      clear hxy
      go_wp2_with fail
      go_meet
      case rel => exact ⟨_, rfl, fun e => by simp at e, fun e => absurd (congrArg List.length (HXY.out e).1) HXe.out, HSU.out⟩
  case rest =>
    clear HSU
    obtain ⟨y0, rfl, hy1, hy2, hS0⟩ := hcut
    have HS0 := Lib.hid hS0
    have HY0 := Lib.hid (And.intro hy1 hy2)
    clear hS0 hy1 hy2
    go_wp2_with fail
    go_loopg [12, 11] X.length (fun kk i s wr => ∃ (r : Nat) (y : Bool), r + kk = X.length ∧ i = .int .i64 r ∧ s = .bool y ∧ (y = true → X.length = Y.length) ∧ (z = true → y = true) ∧ SaS w0 (.slice p a.length cp) (.slice q b.length cq) a b (.slice px X.length cx) (.slice py Y.length cy) X Y wr)
    case atStart => exact ⟨0, y0, by omega, rfl, rfl, HY0.out.1, HY0.out.2, HS0.out⟩
    case round =>
      clear HS0 HY0
      obtain ⟨r, y, hr, rfl, rfl, hy1, hy2, hS0⟩ := hrel
      have HS2 := Lib.hid hS0
      have HY := Lib.hid (And.intro hy1 hy2)
      have hxl := HXl.out
      clear hS0 hy1 hy2
      by_cases hlt : r < X.length
      · have hltI : (r : Int) < (X.length : Int) := by omega
        cases y
        · cases z
          · go_wp2_with (go_at_call 7; refine (HA.out _ HS2.out.2.2.2.2).mono ?_; rintro e w8 ⟨rfl, hw8⟩; refine Hid.out ?_)
            have HS3 := Lib.hid (SaS.below hw8 HS2.out)
            clear hw8 HS2
            refine Lib.hid ?_
            go_wp2_with (go_at_call 13; refine (HSm.out _ _ _ HS3.out.1 HS3.out.2.1).mono ?_; rintro e w9 ⟨rfl, hw9⟩; refine Hid.out ?_)
            have HS4 := Lib.hid (SaS.below hw9 HS3.out)
            clear hw9 HS3
            refine Lib.hid ?_
            go_wp2_with (go_at_call 14; refine (HRs.out _ _ _ HS4.out.1 HS4.out.2.1).mono ?_; rintro e w10 ⟨rfl, hw10⟩; refine Hid.out ?_)
            have HS5 := Lib.hid (SaS.below hw10 HS4.out)
            clear hw10 HS4
            refine Lib.hid ?_
            go_wp2_with (go_at_call 13; refine (HSa.out _ _ _ HS5.out.1 HS5.out.1).mono ?_; rintro e w11 ⟨rfl, hw11⟩; refine Hid.out ?_)
            have HS6 := Lib.hid (SaS.below hw11 HS5.out)
            clear hw11 HS5
            refine Lib.hid ?_
            go_wp2_with (go_at_call 13; refine (HSm.out _ _ _ HS6.out.1 HS6.out.2.1).mono ?_; rintro e w12 ⟨rfl, hw12⟩; refine Hid.out ?_)
            have HS7 := Lib.hid (SaS.below hw12 HS6.out)
            clear hw12 HS6
            refine Lib.hid ?_
            go_wp2_with fail
            go_ret
            exact ⟨rfl, HS7.out.2.2.2.2⟩
          · exact absurd (HY.out.2 rfl) Bool.false_ne_true
        · have HXe := Lib.hid (HY.out.1 rfl)
          have hltY : (r : Int) < (Y.length : Int) := by have := HXe.out; omega
          obtain ⟨c, hc'⟩ := lt_some hlt
          obtain ⟨d, hd'⟩ := lt_some (show r < Y.length by omega)
          obtain ⟨b1, o1, rfl, _⟩ := HS2.out.2.2.1.at hc'
          obtain ⟨b2, o2, rfl, _⟩ := HS2.out.2.2.2.1.at hd'
          have HC := Lib.hid (And.intro hc' hd')
          have HZ := Lib.hid (show z = true → sEq c d = true from fun e => by rw [(HXY.out e).1, hd'] at hc'; rw [Option.some.inj hc']; exact sEq_refl _)
          clear hc' hd'
          have heq : ∀ w, (Op.equalIn 10000 32 (.agg (snl c).toArray) (.agg (snl d).toArray)).run Tryd.prog w = .ok (sEq c d) w := fun w => eql_send c d w
          have hgd := guardSend
          generalize sEq c d = x at *
          go_upto_region 9 with (fail)
          refine wp_region_held_drew (S := SaS w0 (.slice p a.length cp) (.slice q b.length cq) a b (.slice (some ⟨b1, o1, none⟩) X.length cx) (.slice (some ⟨b2, o2, none⟩) Y.length cy) X Y) (by kernel_rfl) (SaS.below (Below.refl _ _).drew HS2.out) (fun hS => ?_)
          clear HS2
          generalize wr.drew = W at *
          refine seqRead 0 (v := _) rfl (by kernel_rfl) (by kernel_rfl) (by kernel_rfl) (fun _ _ _ h => h) rfl (fun w hSw => by go_simp <;> with_reducible rfl) hS ?_
          try simp only [Act.put, List.setIfInBounds_toArray, List.set_cons_zero, List.set_cons_succ]
          refine seqRead 1 (v := _) rfl (by kernel_rfl) (by kernel_rfl) (by kernel_rfl) (fun _ _ _ h => h) rfl (fun w hSw => by go_simp <;> with_reducible rfl) hS ?_
          try simp only [Act.put, List.setIfInBounds_toArray, List.set_cons_zero, List.set_cons_succ]
          refine seqRead 2 (v := _) rfl (by kernel_rfl) (by kernel_rfl) (by kernel_rfl) (fun _ _ _ h => h) rfl (fun w hSw => by go_simp <;> with_reducible rfl) hS ?_
          try simp only [Act.put, List.setIfInBounds_toArray, List.set_cons_zero, List.set_cons_succ]
          refine seqRead 3 (v := _) rfl (by kernel_rfl) (by kernel_rfl) (by kernel_rfl) (fun _ _ _ h => h) rfl (fun w hSw => execRow rfl b1 (o1 + r * 13) rfl (snl c) _ (hSw.2.2.1.at' HC.out.1) Tryd.underlying32 rfl infoS) hS ?_
          try simp only [Act.put, List.setIfInBounds_toArray, List.set_cons_zero, List.set_cons_succ]
          refine seqRead 4 (v := _) rfl (by kernel_rfl) (by kernel_rfl) (by kernel_rfl) (fun _ _ _ h => h) rfl (fun w hSw => by go_simp <;> with_reducible rfl) hS ?_
          try simp only [Act.put, List.setIfInBounds_toArray, List.set_cons_zero, List.set_cons_succ]
          refine seqRead 5 (v := _) rfl (by kernel_rfl) (by kernel_rfl) (by kernel_rfl) (fun _ _ _ h => h) rfl (fun w hSw => by go_simp <;> with_reducible rfl) hS ?_
          try simp only [Act.put, List.setIfInBounds_toArray, List.set_cons_zero, List.set_cons_succ]
          refine seqRead 6 (v := _) rfl (by kernel_rfl) (by kernel_rfl) (by kernel_rfl) (fun _ _ _ h => h) rfl (fun w hSw => by go_simp <;> with_reducible rfl) hS ?_
          try simp only [Act.put, List.setIfInBounds_toArray, List.set_cons_zero, List.set_cons_succ]
          refine seqRead 7 (v := _) rfl (by kernel_rfl) (by kernel_rfl) (by kernel_rfl) (fun _ _ _ h => h) rfl (fun w hSw => execRow rfl b2 (o2 + r * 13) rfl (snl d) _ (hSw.2.2.2.1.at' HC.out.2) Tryd.underlying32 rfl infoS) hS ?_
          try simp only [Act.put, List.setIfInBounds_toArray, List.set_cons_zero, List.set_cons_succ]
          refine seqRead 8 (v := _) rfl (by kernel_rfl) (by kernel_rfl) (by kernel_rfl) (fun _ _ _ h => h) rfl (fun w hSw => by go_simp <;> with_reducible rfl) hS ?_
          try simp only [Act.put, List.setIfInBounds_toArray, List.set_cons_zero, List.set_cons_succ]
          refine seqRead 9 (v := _) rfl (by kernel_rfl) (by kernel_rfl) (by kernel_rfl) (fun _ _ _ h => h) rfl (fun w hSw => by go_simp <;> with_reducible rfl) hS ?_
          try simp only [Act.put, List.setIfInBounds_toArray, List.set_cons_zero, List.set_cons_succ]
          refine seqDone (by kernel_rfl) ?_
          have HS3 := Lib.hid hS
          clear hS heq hgd
          go_wp2_with fail
          go_roundg (X.length - (r + 1))
          case measure => omega
          case rel => exact ⟨r + 1, x, by omega, by go_num, rfl, fun _ => HXe.out, HZ.out, HS3.out⟩
      · have hltI : ¬ (r : Int) < (X.length : Int) := by omega
        cases z
        · go_wp2_with (go_at_call 7; refine (HA.out _ HS2.out.2.2.2.2).mono ?_; rintro e w8 ⟨rfl, hw8⟩; refine Hid.out ?_)
          have HS3 := Lib.hid (SaS.below hw8 HS2.out)
          clear hw8 HS2
          refine Lib.hid ?_
          go_wp2_with (go_at_call 13; refine (HSm.out _ _ _ HS3.out.1 HS3.out.2.1).mono ?_; rintro e w9 ⟨rfl, hw9⟩; refine Hid.out ?_)
          have HS4 := Lib.hid (SaS.below hw9 HS3.out)
          clear hw9 HS3
          refine Lib.hid ?_
          go_wp2_with (go_at_call 14; refine (HRs.out _ _ _ HS4.out.1 HS4.out.2.1).mono ?_; rintro e w10 ⟨rfl, hw10⟩; refine Hid.out ?_)
          have HS5 := Lib.hid (SaS.below hw10 HS4.out)
          clear hw10 HS4
          refine Lib.hid ?_
          go_wp2_with (go_at_call 13; refine (HSa.out _ _ _ HS5.out.1 HS5.out.1).mono ?_; rintro e w11 ⟨rfl, hw11⟩; refine Hid.out ?_)
          have HS6 := Lib.hid (SaS.below hw11 HS5.out)
          clear hw11 HS5
          refine Lib.hid ?_
          go_wp2_with (go_at_call 13; refine (HSm.out _ _ _ HS6.out.1 HS6.out.2.1).mono ?_; rintro e w12 ⟨rfl, hw12⟩; refine Hid.out ?_)
          have HS7 := Lib.hid (SaS.below hw12 HS6.out)
          clear hw12 HS6
          refine Lib.hid ?_
          go_wp2_with fail
          go_ret
          exact ⟨rfl, HS7.out.2.2.2.2⟩
        · obtain rfl := HY.out.2 rfl
          go_wp2_with (go_at_call 7; refine (HA.out _ HS2.out.2.2.2.2).mono ?_; rintro e w8 ⟨rfl, hw8⟩; refine Hid.out ?_)
          have HS3 := Lib.hid (SaS.below hw8 HS2.out)
          clear hw8 HS2
          refine Lib.hid ?_
          go_wp2_with (go_at_call 13; refine (HSm.out _ _ _ HS3.out.1 HS3.out.2.1).mono ?_; rintro e w9 ⟨rfl, hw9⟩; refine Hid.out ?_)
          have HS4 := Lib.hid (SaS.below hw9 HS3.out)
          clear hw9 HS3
          refine Lib.hid ?_
          go_wp2_with (go_at_call 14; refine (HRs.out _ _ _ HS4.out.1 HS4.out.2.1).mono ?_; rintro e w10 ⟨rfl, hw10⟩; refine Hid.out ?_)
          have HS5 := Lib.hid (SaS.below hw10 HS4.out)
          clear hw10 HS4
          refine Lib.hid ?_
          go_wp2_with (go_at_call 13; refine (HSa.out _ _ _ HS5.out.1 HS5.out.1).mono ?_; rintro e w11 ⟨rfl, hw11⟩; refine Hid.out ?_)
          have HS6 := Lib.hid (SaS.below hw11 HS5.out)
          clear hw11 HS5
          refine Lib.hid ?_
          go_wp2_with (go_at_call 13; refine (HSm.out _ _ _ HS6.out.1 HS6.out.2.1).mono ?_; rintro e w12 ⟨rfl, hw12⟩; refine Hid.out ?_)
          have HS7 := Lib.hid (SaS.below hw12 HS6.out)
          clear hw12 HS6
          refine Lib.hid ?_
          go_wp2_with fail
          go_ret
          exact ⟨rfl, HS7.out.2.2.2.2⟩
theorem actSame_any (va : Value) (a : List Ac) (hwa : WfAL a) (vb : Value) (b : List Ac) (hwb : WfAL b) (h : Nat → Int) (w0 : World) (ha : KLies KA va a w0) (hb : KLies KA vb b w0) (ht : Tab w0) (hz : 0 < w0.heap.size) :
    Calls Tryd.prog 4 #[va, vb, .agg (hc h)] w0 fun e w' => e = .returned (.bool true) ∧ Below w0.heap.size w0 w' := by
  obtain ⟨p, cp, rfl⟩ := ha.form
  obtain ⟨q, cq, rfl⟩ := hb.form
  by_cases hn : a.length ≤ 20 ∧ b.length ≤ 20
  · exact actSame_few p q cp cq a b h hn.1 hn.2 hwa hwb w0 ha hb ht hz
  · exact actSame_many p q cp cq a.length b.length h w0 ht hz hn
end Go.Proofs.YtpcacgfhjheiiaaDoor
