/-
  The walk of the law ActJoins.
-/
import Derived.Test.YtpcacgfhjheiiaaDoorActRunsW
namespace Go.Proofs.YtpcacgfhjheiiaaDoor
open Go.RowKit

/-- the header behind a list of actions -/
def runH (h : Nat → Int) (l : List Ac) : Nat → Int := l.foldl stepH h
theorem runS_append : ∀ (a b : List Ac) (h : Nat → Int), runS h (a ++ b) = runS h a ++ runS (runH h a) b
  | [], b, h => rfl
  | x :: a, b, h => by
    show stepS h x ++ runS (stepH h x) (a ++ b) = (stepS h x ++ runS (stepH h x) a) ++ runS (runH (stepH h x) a) b
    rw [runS_append a b, List.append_assoc]
theorem hasT_append (a b : List Ac) : hasT (a ++ b) = (hasT a || hasT b) := by simp [hasT]
theorem sndAL_append {a b : List Ac} (ha : sndAL a = true) (hb : sndAL b = true) (h : a.length + b.length ≤ 8) : sndAL (a ++ b) = true := by
  unfold sndAL at *
  rw [Bool.and_eq_true] at *
  refine ⟨by simpa using h, ?_⟩
  rw [List.all_append, ha.2, hb.2]
  rfl
theorem WfAL.append {a b : List Ac} (ha : WfAL a) (hb : WfAL b) : WfAL (a ++ b) := fun x hx => by
  rcases List.mem_append.1 hx with h | h
  · exact ha x h
  · exact hb x h
theorem runV_yes {l : List Ac} (h : sndAL l = true) (g : Nat → Int) : runV l g = runS g l := by unfold runV; rw [if_pos h]
theorem runB_yes {l : List Ac} (h : sndAL l = true) : runB l = hasT l := by unfold runB; rw [h]; rfl
/-- the headers of the law: as it came, and as it is then -/
def J1 (w0 : World) (h : Nat → Int) (bg : Nat) (g : Nat → Int) (W : World) : Prop := Blk w0.heap.size (hc h) 25 W ∧ Blk bg (hc g) 25 W ∧ Below w0.heap.size w0 W ∧ w0.heap.size < bg
section
variable {w0 W W' : World} {h g : Nat → Int} {bg : Nat}
theorem J1.below (hb : Below W.heap.size W W') (s : J1 w0 h bg g W) : J1 w0 h bg g W' := ⟨s.1.below hb, s.2.1.below hb, s.2.2.1.trans (hb.mono s.2.2.1.size), s.2.2.2⟩
theorem J1.cset (s : J1 w0 h bg g W) {k : Nat} (hk : k < 12) (x : Int) : J1 w0 h bg (upd g k x) (W.setCell ⟨bg, k, none⟩ (.int .u64 x)) :=
  ⟨(heap_setCell_other W ⟨bg, k, none⟩ w0.heap.size _ (by have := s.2.2.2; show w0.heap.size ≠ bg; omega)).trans s.1,
   (heap_setCell_same W bg k (hc g) 25 (.int .u64 x) s.2.1).trans (by rw [hc_set g x k hk]), s.2.2.1.setCell (show w0.heap.size ≤ bg from Nat.le_of_lt s.2.2.2) _, s.2.2.2⟩
end
/-- what is sent, twice -/
def J2 (w0 : World) (vx va : Value) (X : List Sn) (W : World) : Prop := KLies KS vx X W ∧ KLies KS va X W ∧ Below w0.heap.size w0 W
theorem J2.below {w0 W W' : World} {vx va : Value} {X : List Sn} (hb : Below W.heap.size W W') (s : J2 w0 vx va X W) : J2 w0 vx va X W' := ⟨s.1.below okS hb, s.2.1.below okS hb, s.2.2.trans (hb.mono s.2.2.size)⟩
set_option maxHeartbeats 1000000 in
set_option maxRecDepth 100000 in
theorem actJoins_many (p q : Option Addr) (cp cq n m : Nat) (hn1 : n ≤ 140737488355328) (hm1 : m ≤ 140737488355328) (h : Nat → Int) (w0 : World) (ht : Tab w0) (hz : 0 < w0.heap.size) (hn : ¬ n + m ≤ 8) :
    Calls Tryd.prog 5 #[.slice p n cp, .slice q m cq, .agg (hc h)] w0 fun e w' => e = .returned (.bool true) ∧ Below w0.heap.size w0 w' := by
  have hE := (Env.start ht hz).alloc (.cells (hc h) 25)
  have HA := Lib.hid (aanswers _ hE.tab hE.lt)
  have HE := Lib.hid hE
  clear ht hE
  have hI : (8 : Int) < (n : Int) + (m : Int) := by omega
  clear hn
  go_enter Tryd.func5, Tryd.ntmps5
  go_wp2_with (go_at_call 7; refine HA.out.mono ?_; rintro e w1 ⟨rfl, hw1⟩)
  go_ret
  exact ⟨rfl, (HE.out.below hw1).kept⟩
set_option maxHeartbeats 1000000 in
set_option maxRecDepth 100000 in
theorem actJoins_bad (p q : Option Addr) (cp cq : Nat) (a b : List Ac) (h : Nat → Int) (hlen : a.length + b.length ≤ 8) (hwa : WfAL a) (hwb : WfAL b) (hs : ¬ (sndAL a = true ∧ sndAL b = true)) (w0 : World) (ha : KLies KA (.slice p a.length cp) a w0) (hb : KLies KA (.slice q b.length cq) b w0) (ht : Tab w0) (hz : 0 < w0.heap.size) :
    Calls Tryd.prog 5 #[.slice p a.length cp, .slice q b.length cq, .agg (hc h)] w0 fun e w' => e = .returned (.bool true) ∧ Below w0.heap.size w0 w' := by
  have hE := (Env.start ht hz).alloc (.cells (hc h) 25)
  have HA := Lib.hid (fun (W : World) (hb : Below w0.heap.size w0 W) => aanswers W ((Env.start ht hz).predK W hb).1 ((Env.start ht hz).predK W hb).2)
  have HRa := Lib.hid (racts_any _ a (by omega) hwa _ (ha.below okA (below1 w0 (.cells (hc h) 25))))
  have HRb := Lib.hid (fun (W : World) (hb' : Below w0.heap.size w0 W) => racts_any _ b (by omega) hwb _ (hb.below okA hb'))
  have HE := Lib.hid hE
  have hI : ¬ (8 : Int) < (a.length : Int) + (b.length : Int) := by omega
  clear ht hE ha hb hwa hwb
  cases hy : sndAL a
  · rw [hy] at HRa
    clear hy hs
    go_enter Tryd.func5, Tryd.ntmps5
    go_wp2_with (go_at_call 11; refine HRa.out.mono ?_; rintro e w1 ⟨rfl, hw1⟩; refine Hid.out ?_)
    have HB := Lib.hid (HE.out.below hw1).kept
    clear hw1 HE HRa
    refine Lib.hid ?_
    go_wp2_with (go_at_call 7; refine (HA.out _ HB.out).mono ?_; rintro e w2 ⟨rfl, hw2⟩)
    go_ret
    exact ⟨rfl, HB.out.trans (hw2.mono HB.out.size)⟩
  · have hy' : sndAL b = false := by
      cases e : sndAL b
      · rfl
      · exact absurd ⟨hy, e⟩ hs
    rw [hy] at HRa
    rw [hy'] at HRb
    clear hy hy' hs
    go_enter Tryd.func5, Tryd.ntmps5
    go_wp2_with (go_at_call 11; refine HRa.out.mono ?_; rintro e w1 ⟨rfl, hw1⟩; refine Hid.out ?_)
    have HB := Lib.hid (HE.out.below hw1).kept
    clear hw1 HE HRa
    refine Lib.hid ?_
    go_wp2_with (go_at_call 11; refine (HRb.out _ HB.out).mono ?_; rintro e w2 ⟨rfl, hw2⟩; refine Hid.out ?_)
    have HB2 := Lib.hid (HB.out.trans (hw2.mono HB.out.size))
    clear hw2 HB HRb
    refine Lib.hid ?_
    go_wp2_with (go_at_call 7; refine (HA.out _ HB2.out).mono ?_; rintro e w3 ⟨rfl, hw3⟩)
    go_ret
    exact ⟨rfl, HB2.out.trans (hw3.mono HB2.out.size)⟩
set_option maxHeartbeats 2000000 in
set_option maxRecDepth 100000 in
theorem actJoins_few (p q : Option Addr) (cp cq : Nat) (a b : List Ac) (h : Nat → Int) (hlen : a.length + b.length ≤ 8) (hwa : WfAL a) (hwb : WfAL b) (sa : sndAL a = true) (sb : sndAL b = true) (w0 : World) (ha : KLies KA (.slice p a.length cp) a w0) (hb : KLies KA (.slice q b.length cq) b w0) (ht : Tab w0) (hz : 0 < w0.heap.size) :
    Calls Tryd.prog 5 #[.slice p a.length cp, .slice q b.length cq, .agg (hc h)] w0 fun e w' => e = .returned (.bool true) ∧ Below w0.heap.size w0 w' := by
  have hE := (Env.start ht hz).alloc (.cells (hc h) 25)
  have HA := Lib.hid (fun (W : World) (hb : Below w0.heap.size w0 W) => aanswers W ((Env.start ht hz).predK W hb).1 ((Env.start ht hz).predK W hb).2)
  have HRa := Lib.hid (racts_any _ a (by omega) hwa _ (ha.below okA (below1 w0 (.cells (hc h) 25))))
  have HRb := Lib.hid (fun (W : World) (hb' : Below w0.heap.size w0 W) => racts_any _ b (by omega) hwb _ (hb.below okA hb'))
  rw [sa] at HRa
  rw [sb] at HRb
  have HLa := Lib.hid (fun (W : World) (hb' : Below w0.heap.size w0 W) => ha.below okA hb')
  have HLb := Lib.hid (fun (W : World) (hb' : Below w0.heap.size w0 W) => hb.below okA hb')
  have HRx := Lib.hid (fun (v : Value) (W : World) (lv : KLies KA v (a ++ b) W) (hb : Below w0.heap.size w0 W) => run_any v (a ++ b) h (by simp; omega) (hwa.append hwb) W lv ((Env.start ht hz).predK W hb).1 ((Env.start ht hz).predK W hb).2)
  have HRy := Lib.hid (fun (v : Value) (W : World) (lv : KLies KA v a W) (hb : Below w0.heap.size w0 W) => run_any v a h (by omega) hwa W lv ((Env.start ht hz).predK W hb).1 ((Env.start ht hz).predK W hb).2)
  have HRz := Lib.hid (fun (v : Value) (W : World) (lv : KLies KA v b W) (hb : Below w0.heap.size w0 W) => run_any v b (runH h a) (by omega) hwb W lv ((Env.start ht hz).predK W hb).1 ((Env.start ht hz).predK W hb).2)
  have sab := sndAL_append sa sb hlen
  rw [runV_yes sab, runB_yes sab, runS_append, hasT_append] at HRx
  rw [runV_yes sa, runB_yes sa] at HRy
  rw [runV_yes sb, runB_yes sb] at HRz
  have HSa := Lib.hid sa
  have hly := runS_len a h
  have hlz := runS_len b (runH h a)
  have HE := Lib.hid hE
  have RH := Lib.hid (Blk.new w0 (hc h) 25)
  have hI : ¬ (8 : Int) < (a.length : Int) + (b.length : Int) := by omega
  clear ht hE ha hb hwa hwb sa sb sab
  go_enter Tryd.func5, Tryd.ntmps5
  go_wp2_with (go_at_call 11; refine HRa.out.mono ?_; rintro e w1 ⟨rfl, hw1⟩; refine Hid.out ?_)
  have HB := Lib.hid (HE.out.below hw1).kept
  have RH1 := Lib.hid (RH.out.below hw1)
  clear hw1 HE HRa RH
  refine Lib.hid ?_
  go_wp2_with (go_at_call 11; refine (HRb.out _ HB.out).mono ?_; rintro e w2 ⟨rfl, hw2⟩; refine Hid.out ?_)
  have HB2 := Lib.hid (HB.out.trans (hw2.mono HB.out.size))
  have RH2 := Lib.hid (RH1.out.below hw2)
  clear hw2 HB HRb RH1 hI
  refine Lib.hid ?_
  have HJ := Lib.hid (show J1 w0 h w2.heap.size h (w2.alloc (.cells (hc h) 25)) from ⟨RH2.out.below (below1 _ _), Blk.new _ _ _, HB2.out.trans ((below1 _ _).mono HB2.out.size), RH2.out.lt⟩)
  go_upto_region 4 with (first
    | (refine wpList_load_row rfl 25 (.tmp 5) rfl w0.heap.size rfl 25 (hc h) (0, 0) _ RH2.out Tryd.underlying25 rfl (by kernel_rfl) ?_)
    | (refine wpList_store_row rfl 25 (.tmp 7) (.tmp 34) rfl w2.heap.size (hc h) rfl rfl 25 _ (heap_alloc_new _ _) (by kernel_rfl) rfl (hc_one _) ?_; rw [World.setRow_alloc_new]))
  clear RH2 HB2
  generalize w2.heap.size = bg at *
  generalize w2.alloc (.cells (hc h) 25) = W3 at *
  generalize hG : runH h a = gE at *
  go_wp2_with fail
  have HGE := Lib.hid hG
  clear hG
  go_loopg [8] a.length (fun kk i wr => ∃ (r : Nat) (g : Nat → Int), r + kk = a.length ∧ i = .int .i64 r ∧ runH g (a.drop r) = gE ∧ J1 w0 h bg g wr)
  case atStart => exact ⟨0, h, by omega, rfl, HGE.out, HJ.out⟩
  case round =>
    clear HJ HGE
    obtain ⟨r, g, hr, rfl, hG, hJ⟩ := hrel
    have HS1 := Lib.hid hJ
    have HG := Lib.hid hG
    clear hJ hG
    by_cases hlt : r < a.length
    · have hltI : (r : Int) < (a.length : Int) := by omega
      obtain ⟨c, hc'⟩ := lt_some hlt
      obtain ⟨bb, o, rfl, hrg⟩ := (HLa.out _ HS1.out.2.2.1).at hc'
      have HD := Lib.hid (dropAt hc')
      obtain ⟨k0, k1, k2, k3⟩ := cellsA hrg
      rcases snd_cases' (snd_mem HSa.out hc') with ⟨pt, rfl, p1, p2⟩ | ⟨f, x, rfl, hse⟩ | rfl
      · clear hrg hc' p1 p2
        have c0 : wr.cell? ⟨bb, o + r * 4, none⟩ = some (.int .i64 1) := k0
        clear k0 k1 k2 k3
        have HS3 := HS1
        clear HS1
        go_wp2_with fail
        go_roundg (a.length - (r + 1))
        case measure => omega
        case rel =>
          refine ⟨r + 1, g, by omega, by go_num, ?_, HS3.out⟩
          have e := HG.out
          rw [HD.out] at e
          simpa [runH, stepH] using e
      · obtain ⟨n, rfl, hn, hf⟩ := setE_zero hse
        clear hrg hc' hse hf
        have c0 : wr.cell? ⟨bb, o + r * 4, none⟩ = some (.int .i64 2) := k0
        have c2 : wr.cell? ⟨bb, o + r * 4 + 2, none⟩ = some (.int .i64 n) := k2
        have c3 : wr.cell? ⟨bb, o + r * 4 + 3, none⟩ = some (.int .u64 x) := k3
        clear k0 k1 k2 k3
        go_upto_region 8 with (fail)
        refine regionTail 11 (by kernel_rfl) (by kernel_rfl) (fun W hW => ?_)
        have HS2 := Lib.hid (show J1 w0 h bg g W by rw [hW.out]; exact J1.below (Below.refl _ _).drew HS1.out)
        have d2 : W.cell? ⟨bb, o + r * 4 + 2, none⟩ = some (.int .i64 n) := by rw [hW.out]; exact c2
        have d3 : W.cell? ⟨bb, o + r * 4 + 3, none⟩ = some (.int .u64 x) := by rw [hW.out]; exact c3
        clear hW c0 c2 c3 HS1
        have e1 := cell_row HS2.out.2.1 hn
        have f1 := frozen_of_row _ bg n _ _ HS2.out.2.1
        have hnI : (n : Int) < 12 := by omega
        simp only [List.take_succ_cons, List.take_zero, List.drop_succ_cons, List.drop_zero]
        repeat still_step
        refine wpStill_nil ?_
        go_upto_region 6 with (fail)
        have HS3 := Lib.hid (HS2.out.cset hn x)
        clear HS2 d2 d3 e1 f1
        generalize W.setCell ⟨bg, n, none⟩ (.int .u64 x) = W4 at *
        go_wp2_with fail
        go_roundg (a.length - (r + 1))
        case measure => omega
        case rel =>
          refine ⟨r + 1, upd g n x, by omega, by go_num, ?_, HS3.out⟩
          have e := HG.out
          rw [HD.out] at e
          simpa [runH, stepH] using e
      · clear hrg hc'
        have c0 : wr.cell? ⟨bb, o + r * 4, none⟩ = some (.int .i64 3) := k0
        clear k0 k1 k2 k3
        have HS3 := HS1
        clear HS1
        go_wp2_with fail
        go_roundg (a.length - (r + 1))
        case measure => omega
        case rel =>
          refine ⟨r + 1, g, by omega, by go_num, ?_, HS3.out⟩
          have e := HG.out
          rw [HD.out] at e
          simpa [runH, stepH] using e
    · have hltI : ¬ (r : Int) < (a.length : Int) := by omega
      have e : a.drop r = [] := List.drop_eq_nil_of_le (by omega)
      have hg := HG.out
      rw [e] at hg
      have e1 : g = gE := hg
      subst e1
      clear e hg HG
      go_upto_region 9 with (fail)
      clear hltI hr
      have HS2 := Lib.hid (J1.below (Below.refl _ _).drew HS1.out)
      clear HS1
      refine wp_region_held_drew (S := J1 w0 h bg g) (by kernel_rfl) HS2.out (fun hS => ?_)
      generalize wr.drew = W at *
      have HSW := HS2
      clear HS2
      refine seqRead 1 (v := _) rfl (by kernel_rfl) (by kernel_rfl) (by kernel_rfl) (fun _ _ _ h => h) rfl (fun w hSw => by go_simp <;> with_reducible rfl) hS ?_
      try simp only [Act.put, List.setIfInBounds_toArray, List.set_cons_zero, List.set_cons_succ]
      refine seqRead 3 (v := _) rfl (by kernel_rfl) (by kernel_rfl) (by kernel_rfl) (fun _ _ _ h => h) rfl (fun w hSw => by go_simp <;> with_reducible rfl) hS ?_
      try simp only [Act.put, List.setIfInBounds_toArray, List.set_cons_zero, List.set_cons_succ]
      refine seqRead 5 (v := _) rfl (by kernel_rfl) (by kernel_rfl) (by kernel_rfl) (fun _ _ _ h => h) rfl (fun w hSw => execRow0 rfl _ rfl hSw.1 Tryd.underlying25 rfl (by kernel_rfl)) hS ?_
      try simp only [Act.put, List.setIfInBounds_toArray, List.set_cons_zero, List.set_cons_succ]
      refine seqCall 0 rfl (by kernel_rfl) rfl (fun K hK => ?_)
      refine kbuildNoneWp KA okA rfl ?_
      have HO := Lib.hid (KOwns.built (K := KA) W W.heap.size (Nat.le_refl _))
      refine hK.out _ _ (J1.below (below1 _ _) hS) (fun hS => ?_)
      clear hK K
      try simp only [Act.put, List.setIfInBounds_toArray, List.set_cons_zero, List.set_cons_succ]
      refine seqCall 2 rfl (by kernel_rfl) rfl (fun K hK => ?_)
      refine kappendWp KA okA (.tmp 59) (.tmp 60) rfl W.heap.size _ [] a rfl HO.out _ rfl (HLa.out _ hS.2.2.1) (by simp) (by simp; omega) (fun v5 w5 ho5 hg5 => ?_)
      have HB5 := Lib.hid (kbelowOwn (below1 W (.cells #[] 38)) HO.out (Nat.le_refl _) hg5)
      have HO5 := Lib.hid ho5
      have S5 := J1.below HB5.out HSW.out
      clear ho5 hg5 HO
      refine hK.out _ _ S5 (fun hS => ?_)
      clear hK K S5
      try simp only [Act.put, List.setIfInBounds_toArray, List.set_cons_zero, List.set_cons_succ]
      refine seqCall 4 rfl (by kernel_rfl) rfl (fun K hK => ?_)
      refine kappendWp KA okA (.tmp 61) (.tmp 62) rfl W.heap.size v5 ([] ++ a) b rfl HO5.out _ rfl (HLb.out _ hS.2.2.1) HB5.out.size (by simp; omega) (fun v6 w6 ho6 hg6 => ?_)
      have HB6 := Lib.hid (kbelowOwn HB5.out HO5.out (Nat.le_refl _) hg6)
      have HO6 := Lib.hid (show KLies KA v6 (a ++ b) w6 from ho6.lies okA)
      have S6 := J1.below HB6.out HSW.out
      clear ho6 hg6 HO5 HB5 HB6 HSW
      refine hK.out _ _ S6 (fun hS => ?_)
      clear hK K S6
      try simp only [Act.put, List.setIfInBounds_toArray, List.set_cons_zero, List.set_cons_succ]
      refine seqCall 6 rfl (by kernel_rfl) rfl (fun K hK => ?_)
      go_simp
      refine (HRx.out _ _ HO6.out hS.2.2.1).mono ?_
      rintro e w7 ⟨vx, rfl, ho7, hb7⟩
      have HX := Lib.hid (ho7.lies okS)
      refine hK.out _ _ (J1.below hb7 hS) (fun hS => ?_)
      clear hK K ho7 hb7 HO6
      try simp only [Act.put, List.setIfInBounds_toArray, List.set_cons_zero, List.set_cons_succ]
      refine seqRead 7 (v := _) rfl (by kernel_rfl) (by kernel_rfl) (by kernel_rfl) (fun _ _ _ h => h) rfl (fun w hSw => by go_simp <;> with_reducible rfl) hS ?_
      try simp only [Act.put, List.setIfInBounds_toArray, List.set_cons_zero, List.set_cons_succ]
      refine seqRead 8 (v := _) rfl (by kernel_rfl) (by kernel_rfl) (by kernel_rfl) (fun _ _ _ h => h) rfl (fun w hSw => by go_simp <;> with_reducible rfl) hS ?_
      try simp only [Act.put, List.setIfInBounds_toArray, List.set_cons_zero, List.set_cons_succ]
      refine seqRead 9 (v := _) rfl (by kernel_rfl) (by kernel_rfl) (by kernel_rfl) (fun _ _ _ h => h) rfl (fun w hSw => by go_simp <;> with_reducible rfl) hS ?_
      try simp only [Act.put, List.setIfInBounds_toArray, List.set_cons_zero, List.set_cons_succ]
      refine seqRead 10 (v := _) rfl (by kernel_rfl) (by kernel_rfl) (by kernel_rfl) (fun _ _ _ h => h) rfl (fun w hSw => by go_simp <;> with_reducible rfl) hS ?_
      try simp only [Act.put, List.setIfInBounds_toArray, List.set_cons_zero, List.set_cons_succ]
      refine seqRead 11 (v := _) rfl (by kernel_rfl) (by kernel_rfl) (by kernel_rfl) (fun _ _ _ h => h) rfl (fun w hSw => by go_simp <;> with_reducible rfl) hS ?_
      try simp only [Act.put, List.setIfInBounds_toArray, List.set_cons_zero, List.set_cons_succ]
      refine seqDone (by kernel_rfl) ?_
      obtain ⟨X, hX⟩ : ∃ X, X = runS h a ++ runS g b := ⟨_, rfl⟩
      have HXL := Lib.hid (show X.length ≤ 16 by rw [hX, List.length_append]; omega)
      rw [← hX] at HX
      have HXE := Lib.hid hX
      clear hX HRx
      generalize runS h a = Y at *
      generalize runS g b = Z at *
      generalize hasT a = u at *
      generalize hasT b = z at *
      obtain ⟨px, cx, rfl⟩ := HX.out.form
      have HS3 := Lib.hid hS
      clear hS
      go_upto_region 11 with (first
        | (refine wpList_load_row rfl 25 (.tmp 5) rfl w0.heap.size rfl 25 (hc h) (0, 0) _ HS3.out.1 Tryd.underlying25 rfl (by kernel_rfl) ?_)
        | (go_at_call 8; refine (HRy.out _ _ (HLa.out _ HS3.out.2.2.1) HS3.out.2.2.1).mono ?_; rintro e w8 ⟨vy, rfl, ho8, hb8⟩))
      have HS4 := Lib.hid (J1.below hb8 HS3.out)
      have HX4 := Lib.hid (HX.out.below okS hb8)
      have HY4 := Lib.hid (ho8.lies okS)
      clear ho8 hb8 HS3 HX HRy
      go_upto_region 12 with (first
        | (refine wpList_load_row rfl 25 (.tmp 7) rfl bg rfl 25 (hc g) (0, 0) _ HS4.out.2.1 Tryd.underlying25 rfl (by kernel_rfl) ?_)
        | (go_at_call 8; refine (HRz.out _ _ (HLb.out _ HS4.out.2.2.1) HS4.out.2.2.1).mono ?_; rintro e w9 ⟨vz, rfl, ho9, hb9⟩))
      have HB5 := Lib.hid (HS4.out.2.2.1.trans (hb9.mono HS4.out.2.2.1.size))
      have HX5 := Lib.hid (HX4.out.below okS hb9)
      have HY5 := Lib.hid (HY4.out.below okS hb9)
      have HZ5 := Lib.hid (ho9.lies okS)
      clear ho9 hb9 HS4 HX4 HY4 HRz HLa HLb
      go_wp2_with (refine kbuildNone KS okS rfl rfl ?_; refine Hid.out ?_)
      refine Lib.hid ?_
      have HO := Lib.hid (KOwns.built (K := KS) w9 w9.heap.size (Nat.le_refl _))
      have HY6 := Lib.hid (HY5.out.below okS (below1 w9 (.cells #[] 32)))
      go_wp2_with (refine kappend KS okS rfl (.tmp 80) (.tmp 81) rfl w9.heap.size _ [] Y rfl HO.out _ rfl HY6.out (by simp) (by simp; omega) (fun v5 w5 ho5 hg5 => ?_); refine Hid.out ?_)
      have HB7 := Lib.hid (kbelowOwn (below1 w9 (.cells #[] 32)) HO.out (Nat.le_refl _) hg5)
      have HO5 := Lib.hid ho5
      have HZ7 := Lib.hid (HZ5.out.below okS HB7.out)
      clear hg5 ho5 HY6 HO HY5
      refine Lib.hid ?_
      go_wp2_with (refine kappend KS okS rfl (.tmp 82) (.tmp 83) rfl w9.heap.size v5 ([] ++ Y) Z rfl HO5.out _ rfl HZ7.out HB7.out.size (by simp; omega) (fun v6 w6 ho6 hg6 => ?_); refine Hid.out ?_)
      have HB8 := kbelowOwn HB7.out HO5.out (Nat.le_refl _) hg6
      have HJ := Lib.hid (show J2 w0 (.slice px X.length cx) v6 X w6 from ⟨HX5.out.below okS HB8, by rw [HXE.out]; exact ho6.lies okS, HB5.out.trans (HB8.mono HB5.out.size)⟩)
      obtain ⟨pa, ca, rfl⟩ := HJ.out.2.1.form
      clear ho6 hg6 HB8 HB7 HO5 HZ7 HX5 HZ5 HB5 HXE
      refine Lib.hid ?_
      have hll : ((X.length : Int) != (X.length : Int)) = false := by simp
      clear hly hlz hlt
      go_wp2_with fail
      clear hll
      go_loopg [16] X.length (fun kk i wr => ∃ r : Nat, r + kk = X.length ∧ i = .int .i64 r ∧ J2 w0 (.slice px X.length cx) (.slice pa X.length ca) X wr)
      case atStart => exact ⟨0, by omega, rfl, HJ.out⟩
      case round =>
        clear HJ
        obtain ⟨r, hr, rfl, hJ⟩ := hrel
        have HJ := Lib.hid hJ
        clear hJ
        by_cases hlt : r < X.length
        · have hltI : (r : Int) < (X.length : Int) := by omega
          have hxl := HXL.out
          obtain ⟨c, hc'⟩ := lt_some hlt
          obtain ⟨b1, o1, rfl, _⟩ := HJ.out.1.at hc'
          obtain ⟨b2, o2, rfl, _⟩ := HJ.out.2.1.at hc'
          have HC := Lib.hid hc'
          clear hc'
          have heq : ∀ w, (Op.equalIn 10000 32 (.agg (snl c).toArray) (.agg (snl c).toArray)).run Tryd.prog w = .ok true w := fun w => (eql_send c c w).trans (by rw [sEq_refl])
          have hgd := guardSend
          go_upto_region 18 with (fail)
          refine wp_region_held_drew (S := J2 w0 (.slice (some ⟨b1, o1, none⟩) X.length cx) (.slice (some ⟨b2, o2, none⟩) X.length ca) X) (by kernel_rfl) (J2.below (Below.refl _ _).drew HJ.out) (fun hS => ?_)
          clear HJ
          generalize wr.drew = W at *
          refine seqRead 0 (v := _) rfl (by kernel_rfl) (by kernel_rfl) (by kernel_rfl) (fun _ _ _ h => h) rfl (fun w hSw => by go_simp <;> with_reducible rfl) hS ?_
          try simp only [Act.put, List.setIfInBounds_toArray, List.set_cons_zero, List.set_cons_succ]
          refine seqRead 1 (v := _) rfl (by kernel_rfl) (by kernel_rfl) (by kernel_rfl) (fun _ _ _ h => h) rfl (fun w hSw => by go_simp <;> with_reducible rfl) hS ?_
          try simp only [Act.put, List.setIfInBounds_toArray, List.set_cons_zero, List.set_cons_succ]
          refine seqRead 2 (v := _) rfl (by kernel_rfl) (by kernel_rfl) (by kernel_rfl) (fun _ _ _ h => h) rfl (fun w hSw => by go_simp <;> with_reducible rfl) hS ?_
          try simp only [Act.put, List.setIfInBounds_toArray, List.set_cons_zero, List.set_cons_succ]
          refine seqRead 3 (v := _) rfl (by kernel_rfl) (by kernel_rfl) (by kernel_rfl) (fun _ _ _ h => h) rfl (fun w hSw => execRow rfl b1 (o1 + r * 13) rfl (snl c) _ (hSw.1.at' HC.out) Tryd.underlying32 rfl infoS) hS ?_
          try simp only [Act.put, List.setIfInBounds_toArray, List.set_cons_zero, List.set_cons_succ]
          refine seqRead 4 (v := _) rfl (by kernel_rfl) (by kernel_rfl) (by kernel_rfl) (fun _ _ _ h => h) rfl (fun w hSw => by go_simp <;> with_reducible rfl) hS ?_
          try simp only [Act.put, List.setIfInBounds_toArray, List.set_cons_zero, List.set_cons_succ]
          refine seqRead 5 (v := _) rfl (by kernel_rfl) (by kernel_rfl) (by kernel_rfl) (fun _ _ _ h => h) rfl (fun w hSw => by go_simp <;> with_reducible rfl) hS ?_
          try simp only [Act.put, List.setIfInBounds_toArray, List.set_cons_zero, List.set_cons_succ]
          refine seqRead 6 (v := _) rfl (by kernel_rfl) (by kernel_rfl) (by kernel_rfl) (fun _ _ _ h => h) rfl (fun w hSw => by go_simp <;> with_reducible rfl) hS ?_
          try simp only [Act.put, List.setIfInBounds_toArray, List.set_cons_zero, List.set_cons_succ]
          refine seqRead 7 (v := _) rfl (by kernel_rfl) (by kernel_rfl) (by kernel_rfl) (fun _ _ _ h => h) rfl (fun w hSw => execRow rfl b2 (o2 + r * 13) rfl (snl c) _ (hSw.2.1.at' HC.out) Tryd.underlying32 rfl infoS) hS ?_
          try simp only [Act.put, List.setIfInBounds_toArray, List.set_cons_zero, List.set_cons_succ]
          refine seqRead 8 (v := _) rfl (by kernel_rfl) (by kernel_rfl) (by kernel_rfl) (fun _ _ _ h => h) rfl (fun w hSw => by go_simp <;> with_reducible rfl) hS ?_
          try simp only [Act.put, List.setIfInBounds_toArray, List.set_cons_zero, List.set_cons_succ]
          refine seqDone (by kernel_rfl) ?_
          have HJ2 := Lib.hid hS
          clear hS heq hgd
          go_wp2_with fail
          go_roundg (X.length - (r + 1))
          case measure => omega
          case rel => exact ⟨r + 1, by omega, by go_num, HJ2.out⟩
        · have hltI : ¬ (r : Int) < (X.length : Int) := by omega
          cases u <;> cases z
          all_goals
            go_wp2_with (go_at_call 7; refine (HA.out _ HJ.out.2.2).mono ?_; rintro e w11 ⟨rfl, hw11⟩)
            go_ret
            exact ⟨rfl, HJ.out.2.2.trans (hw11.mono HJ.out.2.2.size)⟩
theorem actJoins_any (va : Value) (a : List Ac) (hwa : WfAL a) (vb : Value) (b : List Ac) (hwb : WfAL b) (h : Nat → Int) (w0 : World) (ha : KLies KA va a w0) (ba : a.length ≤ 140737488355328) (hb : KLies KA vb b w0) (bb : b.length ≤ 140737488355328) (ht : Tab w0) (hz : 0 < w0.heap.size) :
    Calls Tryd.prog 5 #[va, vb, .agg (hc h)] w0 fun e w' => e = .returned (.bool true) ∧ Below w0.heap.size w0 w' := by
  obtain ⟨p, cp, rfl⟩ := ha.form
  obtain ⟨q, cq, rfl⟩ := hb.form
  by_cases hn : a.length + b.length ≤ 8
  · by_cases hs : sndAL a = true ∧ sndAL b = true
    · exact actJoins_few p q cp cq a b h hn hwa hwb hs.1 hs.2 w0 ha hb ht hz
    · exact actJoins_bad p q cp cq a b h hn hwa hwb hs w0 ha hb ht hz
  · exact actJoins_many p q cp cq a.length b.length ba bb h w0 ht hz hn
end Go.Proofs.YtpcacgfhjheiiaaDoor
