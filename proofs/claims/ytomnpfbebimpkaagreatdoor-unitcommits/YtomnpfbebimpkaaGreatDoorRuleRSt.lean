/-
  The walk of the reference's Sort.
-/
import Derived.Test.YtomnpfbebimpkaaGreatDoorRuleRStM
import Derived.Test.YtomnpfbebimpkaaGreatDoorPackRule
namespace Go.Proofs.YtomnpfbebimpkaaGreatDoor
set_option maxRecDepth 20000
open Go.RowKit

theorem execUpto {a : Act} {oi : Oper} {w : World} {x y : Operand} (ho : oi.op = .slice 27 x none (some y) none) (p : Option Addr) (len cap c : Nat) (hx : a.eval x = .slice p len cap) (hy : a.eval y = .int .i64 (c : Int))
    (hc : c ≤ len) (hl : len ≤ cap) : (execOp a.eval oi).run Tryz.prog w = .ok (.value (.slice p c cap)) w := by
  unfold execOp
  simp only [ho, hx, Option.map_some, Option.map_none, hy, Sem.run_bind]
  rw [run_sliceAt_slice (h := elemR), run_slice_h (ht := elemR) (h0 := by omega) (h2 := by omega), sizeElR]
  have e : (if cap = 0 then p else p.map (·.add (0 * 32))) = p := by
    split
    · rfl
    · cases p with
      | none => rfl
      | some ad => simp [Addr.add]
  simp only [Result.andThen, sliced, Int.toNat_natCast, Nat.sub_zero, e]
  rfl
theorem wpFrom {ops : Array Oper} {rest : List Oper} {oi : Oper} {a : Act} {w : World} {Q : Exit → Act → World → Prop} (hg : oi.guard = none) (x y : Operand) (ho : oi.op = .slice 27 x (some y) none none) (p : Option Addr) (len cap c : Nat) (hx : a.eval x = .slice p len cap) (hy : a.eval y = .int .i64 (c : Int))
    (hc : c ≤ len) (h : wpList Tryz.prog ops Q rest (a.put oi.dst (fromV 32 p len cap c)) w) : wpList Tryz.prog ops Q (oi :: rest) a w :=
  wpList_plain hg fun _ hK => by
    unfold Oper.wp
    rw [execFrom ho p len cap c hx hy hc]
    exact hK _ _ h
/-- the rules, the sorted ones -/
def RsS (w : World) (v : Value) (l : List Rm) (ov : Value) (L : List Rm) (W : World) : Prop := RLies v l W ∧ KLies KR ov L W ∧ Env w W
theorem RsS.below {w : World} {v ov : Value} {l L : List Rm} {W W' : World} (hb : Below W.heap.size W W') (h : RsS w v l ov L W) : RsS w v l ov L W' := ⟨h.1.below hb, h.2.1.below okR hb, h.2.2.below hb⟩
/-- .. and those behind -/
def RtS (w : World) (v : Value) (l : List Rm) (ov : Value) (L : List Rm) (rv : Value) (R : List Rm) (W : World) : Prop := RsS w v l ov L W ∧ KLies KR rv R W
theorem RtS.below {w : World} {v ov rv : Value} {l L R : List Rm} {W W' : World} (hb : Below W.heap.size W W') (h : RtS w v l ov L rv R W) : RtS w v l ov L rv R W' := ⟨RsS.below hb h.1, h.2.below okR hb⟩
/-- what the reference's Sort gives -/
def RsRet (w : World) (l : List Rm) (e : Ending) (w' : World) : Prop := ∃ v, e = .returned v ∧ KOwns KR w.heap.size v (tblM l) w' ∧ Below w.heap.size w w'
set_option maxRecDepth 100000 in
set_option maxHeartbeats 4000000 in
theorem rrsort_any (v : Value) (l : List Rm) (hlen : l.length ≤ 10000) (hw : WfRL l) (w : World) (hl : RLies v l w) (ht : Tab w) (hz : 0 < w.heap.size) : Calls Tryz.prog 55 #[v] w (RsRet w l) := by
  obtain ⟨p, cap, rfl⟩ := hl.1.form
  have HL := Lib.hid (And.intro hl (Env.start ht hz))
  have HW := Lib.hid hw
  clear hl hw ht
  go_enter Tryz.func55, Tryz.ntmps55
  go_wp2_with fail
  go_loopg [3, 4] l.length (fun k ov i wr => ∃ (r : Nat) (L : List Rm), r + k = l.length ∧ i = .int .i64 r ∧ L = tblM (l.take r) ∧ RLies (.slice p l.length cap) l wr ∧ KOwns KR w.heap.size ov L wr ∧ Env w wr)
  case atStart => exact ⟨0, [], by omega, rfl, rfl, HL.out.1, KOwns.nil _ _, HL.out.2⟩
  case round =>
    clear HL
    obtain ⟨r, L, hr, rfl, hLt, hs, hown, he⟩ := hrel
    have HLT := Lib.hid hLt
    have hLl : L.length ≤ 10000 := by have := tblM_len (l.take r); rw [← hLt, List.length_take] at this; omega
    obtain ⟨po, co, rfl⟩ := hown.form
    have HS := Lib.hid (show RsS w (.slice p l.length cap) l (.slice po L.length co) L wr from ⟨hs, hown.lies okR, he⟩)
    have hcap := HS.out.2.1.capLe
    have HOWN := Lib.hid hown
    clear hs he hLt hown
    by_cases hlt : r < l.length
    · have hltI : (r : Int) < (l.length : Int) := by omega
      have hdI : decide ((r : Int) < (l.length : Int)) = true := decide_eq_true hltI
      obtain ⟨x, hx⟩ := lt_some hlt
      obtain ⟨b, o, rfl, hrg⟩ := HS.out.1.1.at hx
      have HR := Lib.hid hrg
      have HX := Lib.hid hx
      clear hrg hx
      have HC := Lib.hid (rrule_any x (HW.out.at HX.out) wr (HS.out.1.acts HX.out) HS.out.2.2.tab HS.out.2.2.lt)
      cases hsn : sndR x.u
      · rw [hsn] at HC
        have HT2 := Lib.hid (HLT.out.trans (tblM_skip HX.out hsn).symm)
        clear hsn
        go_wp2_with (first
          | (refine wpList_load_mid rfl 88 _ rfl b (o + r * 32) rfl (rcl x) _ HR.out Tryz.underlying88 rfl infoR ?_)
          | (go_at_call 48; refine HC.out.mono ?_; rintro e w2 ⟨rfl, hw2⟩; refine Hid.out ?_))
        have HS1 := Lib.hid (RsS.below hw2 HS.out)
        have HOWN1 := Lib.hid (HOWN.out.below hw2)
        clear hw2 HC HR HS HOWN
        refine Lib.hid ?_
        go_wp2_with fail
        go_roundg (l.length - (r + 1))
        case measure => omega
        case rel => exact ⟨r + 1, L, by omega, by go_num, HT2.out, HS1.out.1, HOWN1.out, HS1.out.2.2⟩
      · rw [hsn] at HC
        have HSN := Lib.hid hsn
        clear hsn HOWN
        go_upto_region 7 with (first
          | (refine wpList_load_mid rfl 88 _ rfl b (o + r * 32) rfl (rcl x) _ HR.out Tryz.underlying88 rfl infoR ?_)
          | (go_at_call 48; refine HC.out.mono ?_; rintro e w2 ⟨rfl, hw2⟩; refine Hid.out ?_))
        have HS1 := Lib.hid (RsS.below hw2 HS.out)
        clear hw2 HC HR HS
        refine Lib.hid ?_
        go_wp2_with fail
        generalize wr = WX at *
        go_loopg [5] L.length (fun kk j wr => ∃ c : Nat, c + kk = L.length ∧ j = .int .i64 c ∧ (∀ (j : Nat) z, j < c → L[j]? = some z → rOrd z.u x.u < 0) ∧ RsS w (.slice (some ⟨b, o, none⟩) l.length cap) l (.slice po L.length co) L wr)
        case atStart => exact ⟨0, by omega, rfl, fun j _ hj => absurd hj (Nat.not_lt_zero _), HS1.out⟩
        case round =>
          clear HS1
          obtain ⟨c, hck, rfl, hq, hs⟩ := hrel
          have HQ2 := Lib.hid hq
          have HS := Lib.hid hs
          clear hq hs
          have hcl : c ≤ L.length := by omega
          by_cases hcL : c < L.length
          · have hcI : (c : Int) < (L.length : Int) := by omega
            obtain ⟨y, hy⟩ := lt_some hcL
            obtain ⟨bo, oo, rfl, _⟩ := HS.out.2.1.at hy
            have HYY := Lib.hid hy
            clear hy
            have HB := Lib.hid (fun (W : World) => rbefore_any y x W)
            by_cases hbf : rOrd y.u x.u < 0
            · rw [decide_eq_true hbf] at HB
              have HBF := Lib.hid hbf
              clear hbf
              go_upto_region 7 with fail
              refine wp_region_held_drew (S := RsS w (.slice (some ⟨b, o, none⟩) l.length cap) l (.slice (some ⟨bo, oo, none⟩) L.length co) L) (by kernel_rfl) (RsS.below (Below.refl _ _).drew HS.out) (fun hS => ?_)
              clear HS
              generalize wr.drew = W at *
              refine seqRead 0 (v := _) rfl (by kernel_rfl) (by kernel_rfl) (by kernel_rfl) (fun _ _ _ h => h) rfl (fun w hSw => by go_simp <;> with_reducible rfl) hS ?_
              try simp only [Act.put, List.setIfInBounds_toArray, List.set_cons_zero, List.set_cons_succ]
              refine seqRead 1 (v := _) rfl (by kernel_rfl) (by kernel_rfl) (by kernel_rfl) (fun _ _ _ h => h) rfl (fun w hSw => by go_simp <;> with_reducible rfl) hS ?_
              try simp only [Act.put, List.setIfInBounds_toArray, List.set_cons_zero, List.set_cons_succ]
              refine seqRead 2 (v := _) rfl (by kernel_rfl) (by kernel_rfl) (by kernel_rfl) (fun _ _ _ h => h) rfl (fun w hSw => by go_simp <;> with_reducible rfl) hS ?_
              try simp only [Act.put, List.setIfInBounds_toArray, List.set_cons_zero, List.set_cons_succ]
              refine seqRead 3 (v := _) rfl (by kernel_rfl) (by kernel_rfl) (by kernel_rfl) (fun _ _ _ h => h) rfl (fun w hSw => by go_simp <;> with_reducible rfl) hS ?_
              try simp only [Act.put, List.setIfInBounds_toArray, List.set_cons_zero, List.set_cons_succ]
              refine seqRead 4 (v := _) rfl (by kernel_rfl) (by kernel_rfl) (by kernel_rfl) (fun _ _ _ h => h) rfl (fun w hSw => by go_simp <;> with_reducible rfl) hS ?_
              try simp only [Act.put, List.setIfInBounds_toArray, List.set_cons_zero, List.set_cons_succ]
              refine seqRead 5 (v := _) rfl (by kernel_rfl) (by kernel_rfl) (by kernel_rfl) (fun _ _ _ h => h) rfl (fun w hSw => by go_simp <;> with_reducible rfl) hS ?_
              try simp only [Act.put, List.setIfInBounds_toArray, List.set_cons_zero, List.set_cons_succ]
              refine seqRead 6 (v := _) rfl (by kernel_rfl) (by kernel_rfl) (by kernel_rfl) (fun _ _ _ h => h) rfl (fun w hSw => by go_simp <;> with_reducible rfl) hS ?_
              try simp only [Act.put, List.setIfInBounds_toArray, List.set_cons_zero, List.set_cons_succ]
              refine seqRead 7 (v := _) rfl (by kernel_rfl) (by kernel_rfl) (by kernel_rfl) (fun _ _ _ h => h) rfl (fun w hSw => by go_simp <;> with_reducible rfl) hS ?_
              try simp only [Act.put, List.setIfInBounds_toArray, List.set_cons_zero, List.set_cons_succ]
              refine seqRead 8 (v := _) rfl (by kernel_rfl) (by kernel_rfl) (by kernel_rfl) (fun _ _ _ h => h) rfl (fun w hSw => execRow rfl bo (oo + c * 32) rfl (rcl y) _ (hSw.2.1.at' HYY.out) Tryz.underlying88 rfl infoR) hS ?_
              try simp only [Act.put, List.setIfInBounds_toArray, List.set_cons_zero, List.set_cons_succ]
              refine seqRead 9 (v := _) rfl (by kernel_rfl) (by kernel_rfl) (by kernel_rfl) (fun _ _ _ h => h) rfl (fun w hSw => by go_simp <;> with_reducible rfl) hS ?_
              try simp only [Act.put, List.setIfInBounds_toArray, List.set_cons_zero, List.set_cons_succ]
              refine seqRead 10 (v := _) rfl (by kernel_rfl) (by kernel_rfl) (by kernel_rfl) (fun _ _ _ h => h) rfl (fun w hSw => by go_simp <;> with_reducible rfl) hS ?_
              try simp only [Act.put, List.setIfInBounds_toArray, List.set_cons_zero, List.set_cons_succ]
              refine seqRead 11 (v := _) rfl (by kernel_rfl) (by kernel_rfl) (by kernel_rfl) (fun _ _ _ h => h) rfl (fun w hSw => by go_simp <;> with_reducible rfl) hS ?_
              try simp only [Act.put, List.setIfInBounds_toArray, List.set_cons_zero, List.set_cons_succ]
              refine seqRead 12 (v := _) rfl (by kernel_rfl) (by kernel_rfl) (by kernel_rfl) (fun _ _ _ h => h) rfl (fun w hSw => execRow rfl b (o + r * 32) rfl (rcl x) _ (hSw.1.1.at' HX.out) Tryz.underlying88 rfl infoR) hS ?_
              try simp only [Act.put, List.setIfInBounds_toArray, List.set_cons_zero, List.set_cons_succ]
              refine seqCall 13 rfl (by kernel_rfl) rfl (fun K hK => ?_)
              go_simp
              refine (HB.out _).mono ?_
              rintro e w1 ⟨rfl, hw1⟩
              refine hK.out _ _ (RsS.below hw1 hS) (fun hS => ?_)
              clear hK K hw1
              try simp only [Act.put, List.setIfInBounds_toArray, List.set_cons_zero, List.set_cons_succ]
              refine seqRead 14 (v := _) rfl (by kernel_rfl) (by kernel_rfl) (by kernel_rfl) (fun _ _ _ h => h) rfl (fun w hSw => by go_simp <;> with_reducible rfl) hS ?_
              try simp only [Act.put, List.setIfInBounds_toArray, List.set_cons_zero, List.set_cons_succ]
              refine seqDone (by kernel_rfl) ?_
              have HS2 := Lib.hid hS
              clear hS HB
              go_wp2_with fail
              go_roundg (L.length - (c + 1))
              case measure => omega
              case rel =>
                refine ⟨c + 1, by omega, by go_num, fun j z hj hz => ?_, HS2.out⟩
                by_cases e : j = c
                · subst e
                  rw [HYY.out] at hz
                  rw [← Option.some.inj hz]; exact HBF.out
                · exact HQ2.out j z (by omega) hz
            · rw [decide_eq_false hbf] at HB
              have HBF := Lib.hid hbf
              clear hbf
              go_upto_region 7 with fail
              refine wp_region_held_drew (S := RsS w (.slice (some ⟨b, o, none⟩) l.length cap) l (.slice (some ⟨bo, oo, none⟩) L.length co) L) (by kernel_rfl) (RsS.below (Below.refl _ _).drew HS.out) (fun hS => ?_)
              clear HS
              generalize wr.drew = W at *
              refine seqRead 0 (v := _) rfl (by kernel_rfl) (by kernel_rfl) (by kernel_rfl) (fun _ _ _ h => h) rfl (fun w hSw => by go_simp <;> with_reducible rfl) hS ?_
              try simp only [Act.put, List.setIfInBounds_toArray, List.set_cons_zero, List.set_cons_succ]
              refine seqRead 1 (v := _) rfl (by kernel_rfl) (by kernel_rfl) (by kernel_rfl) (fun _ _ _ h => h) rfl (fun w hSw => by go_simp <;> with_reducible rfl) hS ?_
              try simp only [Act.put, List.setIfInBounds_toArray, List.set_cons_zero, List.set_cons_succ]
              refine seqRead 2 (v := _) rfl (by kernel_rfl) (by kernel_rfl) (by kernel_rfl) (fun _ _ _ h => h) rfl (fun w hSw => by go_simp <;> with_reducible rfl) hS ?_
              try simp only [Act.put, List.setIfInBounds_toArray, List.set_cons_zero, List.set_cons_succ]
              refine seqRead 3 (v := _) rfl (by kernel_rfl) (by kernel_rfl) (by kernel_rfl) (fun _ _ _ h => h) rfl (fun w hSw => by go_simp <;> with_reducible rfl) hS ?_
              try simp only [Act.put, List.setIfInBounds_toArray, List.set_cons_zero, List.set_cons_succ]
              refine seqRead 4 (v := _) rfl (by kernel_rfl) (by kernel_rfl) (by kernel_rfl) (fun _ _ _ h => h) rfl (fun w hSw => by go_simp <;> with_reducible rfl) hS ?_
              try simp only [Act.put, List.setIfInBounds_toArray, List.set_cons_zero, List.set_cons_succ]
              refine seqRead 5 (v := _) rfl (by kernel_rfl) (by kernel_rfl) (by kernel_rfl) (fun _ _ _ h => h) rfl (fun w hSw => by go_simp <;> with_reducible rfl) hS ?_
              try simp only [Act.put, List.setIfInBounds_toArray, List.set_cons_zero, List.set_cons_succ]
              refine seqRead 6 (v := _) rfl (by kernel_rfl) (by kernel_rfl) (by kernel_rfl) (fun _ _ _ h => h) rfl (fun w hSw => by go_simp <;> with_reducible rfl) hS ?_
              try simp only [Act.put, List.setIfInBounds_toArray, List.set_cons_zero, List.set_cons_succ]
              refine seqRead 7 (v := _) rfl (by kernel_rfl) (by kernel_rfl) (by kernel_rfl) (fun _ _ _ h => h) rfl (fun w hSw => by go_simp <;> with_reducible rfl) hS ?_
              try simp only [Act.put, List.setIfInBounds_toArray, List.set_cons_zero, List.set_cons_succ]
              refine seqRead 8 (v := _) rfl (by kernel_rfl) (by kernel_rfl) (by kernel_rfl) (fun _ _ _ h => h) rfl (fun w hSw => execRow rfl bo (oo + c * 32) rfl (rcl y) _ (hSw.2.1.at' HYY.out) Tryz.underlying88 rfl infoR) hS ?_
              try simp only [Act.put, List.setIfInBounds_toArray, List.set_cons_zero, List.set_cons_succ]
              refine seqRead 9 (v := _) rfl (by kernel_rfl) (by kernel_rfl) (by kernel_rfl) (fun _ _ _ h => h) rfl (fun w hSw => by go_simp <;> with_reducible rfl) hS ?_
              try simp only [Act.put, List.setIfInBounds_toArray, List.set_cons_zero, List.set_cons_succ]
              refine seqRead 10 (v := _) rfl (by kernel_rfl) (by kernel_rfl) (by kernel_rfl) (fun _ _ _ h => h) rfl (fun w hSw => by go_simp <;> with_reducible rfl) hS ?_
              try simp only [Act.put, List.setIfInBounds_toArray, List.set_cons_zero, List.set_cons_succ]
              refine seqRead 11 (v := _) rfl (by kernel_rfl) (by kernel_rfl) (by kernel_rfl) (fun _ _ _ h => h) rfl (fun w hSw => by go_simp <;> with_reducible rfl) hS ?_
              try simp only [Act.put, List.setIfInBounds_toArray, List.set_cons_zero, List.set_cons_succ]
              refine seqRead 12 (v := _) rfl (by kernel_rfl) (by kernel_rfl) (by kernel_rfl) (fun _ _ _ h => h) rfl (fun w hSw => execRow rfl b (o + r * 32) rfl (rcl x) _ (hSw.1.1.at' HX.out) Tryz.underlying88 rfl infoR) hS ?_
              try simp only [Act.put, List.setIfInBounds_toArray, List.set_cons_zero, List.set_cons_succ]
              refine seqCall 13 rfl (by kernel_rfl) rfl (fun K hK => ?_)
              go_simp
              refine (HB.out _).mono ?_
              rintro e w1 ⟨rfl, hw1⟩
              refine hK.out _ _ (RsS.below hw1 hS) (fun hS => ?_)
              clear hK K hw1
              try simp only [Act.put, List.setIfInBounds_toArray, List.set_cons_zero, List.set_cons_succ]
              refine seqRead 14 (v := _) rfl (by kernel_rfl) (by kernel_rfl) (by kernel_rfl) (fun _ _ _ h => h) rfl (fun w hSw => by go_simp <;> with_reducible rfl) hS ?_
              try simp only [Act.put, List.setIfInBounds_toArray, List.set_cons_zero, List.set_cons_succ]
              refine seqDone (by kernel_rfl) ?_
              have HS := Lib.hid hS
              clear hS HB
              generalize wr = WZ at *
              generalize w1 = wr at *
              generalize hpo : (some ⟨bo, oo, none⟩ : Option Addr) = po at *
              clear hpo
              cases hkey : keyB y.u x.u
              · have HK := Lib.hid (fun (W : World) => rkey_any y x W)
                rw [hkey] at HK
                have NEW : ∀ y', L[c]? = some y' → 0 < rOrd y'.u x.u := fun y' hy' => by
                  rw [HYY.out] at hy'
                  rw [← Option.some.inj hy']
                  rw [key_ord] at hkey
                  have h1 : rOrd y.u x.u ≠ 0 := by simpa using hkey
                  have := HBF.out
                  omega
                have HNEW := Lib.hid NEW
                clear hkey NEW
                have HLd := Lib.hid (show KLies KR (fromV 32 po L.length co c) (L.drop c) (wr.alloc (.cells #[] KR.T)) from (HS.out.2.1.from hcl).below okR (below1 _ _))
                go_wp2_with (first
                  | (refine kbuildNone KR okR rfl rfl ?_)
                  | (refine wpFrom rfl (.tmp 37) (.tmp 38) rfl po L.length co c rfl rfl hcl ?_)
                  | (refine kappend KR okR rfl (.tmp 36) (.tmp 39) rfl wr.heap.size _ [] (L.drop c) rfl (KOwns.built wr _ (Nat.le_refl _)) _ rfl HLd.out (by simp) (by simp; omega) (fun v2 w2 ho hg => ?_); refine Hid.out ?_))
                have hb2 := kbelowOwn (below1 wr (.cells #[] KR.T)) (KOwns.built (K := KR) wr wr.heap.size (Nat.le_refl _)) (Nat.le_refl _) hg
                obtain ⟨Rst, hRst⟩ : ∃ Rst, Rst = L.drop c := ⟨_, rfl⟩
                have hr2 : KLies KR v2 Rst w2 := by rw [hRst]; exact ho.lies okR
                have HS2 := Lib.hid (show RtS w (.slice (some ⟨b, o, none⟩) l.length cap) l (.slice po L.length co) L v2 Rst w2 from ⟨RsS.below hb2 HS.out, hr2⟩)
                obtain ⟨pr, nR, cr, rfl, hnR⟩ : ∃ pr nR cr, v2 = .slice pr nR cr ∧ nR = Rst.length := by
                  obtain ⟨p', c', e'⟩ := hr2.form
                  exact ⟨p', _, c', e', rfl⟩
                have HnR := Lib.hid hnR
                clear ho hg hb2 hr2 HLd HS
                have hRl : nR = L.length - c := by rw [hnR, hRst, List.length_drop]
                have hR0I : (0 : Int) < (nR : Int) := by omega
                have hR0N : 0 < nR := by omega
                have HRl := Lib.hid hRl
                clear hnR hRl
                have hy0 : Rst[0]? = some y := by rw [hRst, List.getElem?_drop]; exact HYY.out
                obtain ⟨br, or_, rfl, _⟩ := HS2.out.2.at hy0
                have HY0 := Lib.hid hy0
                clear hy0
                refine Lib.hid ?_
                go_upto_region 10 with fail
                refine wp_region_held_drew (S := RtS w (.slice (some ⟨b, o, none⟩) l.length cap) l (.slice po L.length co) L (.slice (some ⟨br, or_, none⟩) nR cr) Rst) (by kernel_rfl) (RtS.below (Below.refl _ _).drew HS2.out) (fun hS => ?_)
                clear HS2
                generalize w2.drew = W at *
                refine seqRead 0 (v := _) rfl (by kernel_rfl) (by kernel_rfl) (by kernel_rfl) (fun _ _ _ h => h) rfl (fun w hSw => by go_simp <;> with_reducible rfl) hS ?_
                try simp only [Act.put, List.setIfInBounds_toArray, List.set_cons_zero, List.set_cons_succ]
                refine seqRead 1 (v := _) rfl (by kernel_rfl) (by kernel_rfl) (by kernel_rfl) (fun _ _ _ h => h) rfl (fun w hSw => by go_simp <;> with_reducible rfl) hS ?_
                try simp only [Act.put, List.setIfInBounds_toArray, List.set_cons_zero, List.set_cons_succ]
                refine seqRead 2 (v := _) rfl (by kernel_rfl) (by kernel_rfl) (by kernel_rfl) (fun _ _ _ h => h) rfl (fun w hSw => by go_simp <;> with_reducible rfl) hS ?_
                try simp only [Act.put, List.setIfInBounds_toArray, List.set_cons_zero, List.set_cons_succ]
                refine seqRead 3 (v := _) rfl (by kernel_rfl) (by kernel_rfl) (by kernel_rfl) (fun _ _ _ h => h) rfl (fun w hSw => by go_simp <;> with_reducible rfl) hS ?_
                try simp only [Act.put, List.setIfInBounds_toArray, List.set_cons_zero, List.set_cons_succ]
                refine seqRead 4 (v := _) rfl (by kernel_rfl) (by kernel_rfl) (by kernel_rfl) (fun _ _ _ h => h) rfl (fun w hSw => by go_simp <;> with_reducible rfl) hS ?_
                try simp only [Act.put, List.setIfInBounds_toArray, List.set_cons_zero, List.set_cons_succ]
                refine seqRead 5 (v := _) rfl (by kernel_rfl) (by kernel_rfl) (by kernel_rfl) (fun _ _ _ h => h) rfl (fun w hSw => by go_simp <;> with_reducible rfl) hS ?_
                try simp only [Act.put, List.setIfInBounds_toArray, List.set_cons_zero, List.set_cons_succ]
                refine seqRead 6 (v := _) rfl (by kernel_rfl) (by kernel_rfl) (by kernel_rfl) (fun _ _ _ h => h) rfl (fun w hSw => execRow rfl br or_ rfl (rcl y) _ (by have h := hSw.2.at' HY0.out; simpa using h) Tryz.underlying88 rfl infoR) hS ?_
                try simp only [Act.put, List.setIfInBounds_toArray, List.set_cons_zero, List.set_cons_succ]
                refine seqRead 7 (v := _) rfl (by kernel_rfl) (by kernel_rfl) (by kernel_rfl) (fun _ _ _ h => h) rfl (fun w hSw => by go_simp <;> with_reducible rfl) hS ?_
                try simp only [Act.put, List.setIfInBounds_toArray, List.set_cons_zero, List.set_cons_succ]
                refine seqRead 8 (v := _) rfl (by kernel_rfl) (by kernel_rfl) (by kernel_rfl) (fun _ _ _ h => h) rfl (fun w hSw => by go_simp <;> with_reducible rfl) hS ?_
                try simp only [Act.put, List.setIfInBounds_toArray, List.set_cons_zero, List.set_cons_succ]
                refine seqRead 9 (v := _) rfl (by kernel_rfl) (by kernel_rfl) (by kernel_rfl) (fun _ _ _ h => h) rfl (fun w hSw => by go_simp <;> with_reducible rfl) hS ?_
                try simp only [Act.put, List.setIfInBounds_toArray, List.set_cons_zero, List.set_cons_succ]
                refine seqRead 10 (v := _) rfl (by kernel_rfl) (by kernel_rfl) (by kernel_rfl) (fun _ _ _ h => h) rfl (fun w hSw => execRow rfl b (o + r * 32) rfl (rcl x) _ (hSw.1.1.1.at' HX.out) Tryz.underlying88 rfl infoR) hS ?_
                try simp only [Act.put, List.setIfInBounds_toArray, List.set_cons_zero, List.set_cons_succ]
                refine seqCall 11 rfl (by kernel_rfl) rfl (fun K hK => ?_)
                go_simp
                refine (HK.out _).mono ?_
                rintro e w1 ⟨rfl, hw1⟩
                refine hK.out _ _ (RtS.below hw1 hS) (fun hS => ?_)
                clear hK K hw1
                try simp only [Act.put, List.setIfInBounds_toArray, List.set_cons_zero, List.set_cons_succ]
                refine seqRead 12 (v := _) rfl (by kernel_rfl) (by kernel_rfl) (by kernel_rfl) (fun _ _ _ h => h) rfl (fun w hSw => by go_simp <;> with_reducible rfl) hS ?_
                try simp only [Act.put, List.setIfInBounds_toArray, List.set_cons_zero, List.set_cons_succ]
                refine seqDone (by kernel_rfl) ?_
                have HS3 := Lib.hid hS
                clear hS
                go_upto_region 12 with fail
                have HS4 := Lib.hid (show RtS w (.slice (some ⟨b, o, none⟩) l.length cap) l (.slice po L.length co) L (Value.slice (some ⟨br, or_, none⟩) nR cr) Rst w1 from HS3.out)
                have HFN := Lib.hid (show tblM (l.take (r + 1)) = L.take c ++ x :: Rst by rw [tblM_snoc HX.out HSN.out, ← HLT.out, ins_new hcl HQ2.out HNEW.out, hRst])
                have hRl2 : Rst.length ≤ 100000 := by rw [hRst, List.length_drop]; omega
                clear HS3 hRst HnR
                generalize (Value.slice (some ⟨br, or_, none⟩) nR cr) = rv at *
                generalize Rst = R at *
                refine wp_region_held_drew (S := RtS w (.slice (some ⟨b, o, none⟩) l.length cap) l (.slice po L.length co) L rv R) (by kernel_rfl) (RtS.below (Below.refl _ _).drew HS4.out) (fun hS => ?_)
                clear HS4
                generalize w1.drew = W at *
                have HSW := Lib.hid hS
                have hWs : w.heap.size ≤ W.heap.size := hS.1.2.2.kept.size
                refine seqRead 1 (v := _) rfl (by kernel_rfl) (by kernel_rfl) (by kernel_rfl) (fun _ _ _ h => h) rfl (fun w hSw => by go_simp <;> with_reducible rfl) hS ?_
                try simp only [Act.put, List.setIfInBounds_toArray, List.set_cons_zero, List.set_cons_succ]
                refine seqRead 2 (v := _) rfl (by kernel_rfl) (by kernel_rfl) (by kernel_rfl) (fun _ _ _ h => h) rfl (fun w hSw => by go_simp <;> with_reducible rfl) hS ?_
                try simp only [Act.put, List.setIfInBounds_toArray, List.set_cons_zero, List.set_cons_succ]
                refine seqRead 3 (v := _) rfl (by kernel_rfl) (by kernel_rfl) (by kernel_rfl) (fun _ _ _ h => h) rfl (fun w hSw => execUpto rfl po L.length co c rfl rfl hcl hcap) hS ?_
                try simp only [Act.put, List.setIfInBounds_toArray, List.set_cons_zero, List.set_cons_succ]
                refine seqRead 5 (v := _) rfl (by kernel_rfl) (by kernel_rfl) (by kernel_rfl) (fun _ _ _ h => h) rfl (fun w hSw => by go_simp <;> with_reducible rfl) hS ?_
                try simp only [Act.put, List.setIfInBounds_toArray, List.set_cons_zero, List.set_cons_succ]
                refine seqRead 6 (v := _) rfl (by kernel_rfl) (by kernel_rfl) (by kernel_rfl) (fun _ _ _ h => h) rfl (fun w hSw => by go_simp <;> with_reducible rfl) hS ?_
                try simp only [Act.put, List.setIfInBounds_toArray, List.set_cons_zero, List.set_cons_succ]
                refine seqRead 7 (v := _) rfl (by kernel_rfl) (by kernel_rfl) (by kernel_rfl) (fun _ _ _ h => h) rfl (fun w hSw => by go_simp <;> with_reducible rfl) hS ?_
                try simp only [Act.put, List.setIfInBounds_toArray, List.set_cons_zero, List.set_cons_succ]
                refine seqRead 8 (v := _) rfl (by kernel_rfl) (by kernel_rfl) (by kernel_rfl) (fun _ _ _ h => h) rfl (fun w hSw => execRow rfl b (o + r * 32) rfl (rcl x) _ (hSw.1.1.1.at' HX.out) Tryz.underlying88 rfl infoR) hS ?_
                try simp only [Act.put, List.setIfInBounds_toArray, List.set_cons_zero, List.set_cons_succ]
                refine seqRead 11 (v := _) rfl (by kernel_rfl) (by kernel_rfl) (by kernel_rfl) (fun _ _ _ h => h) rfl (fun w hSw => by go_simp <;> with_reducible rfl) hS ?_
                try simp only [Act.put, List.setIfInBounds_toArray, List.set_cons_zero, List.set_cons_succ]
                refine seqActs2 0 9 rfl rfl (by kernel_rfl) rfl (fun K hK => ?_) rfl (fun K hK => ?_)
                · refine kbuildNoneWp KR okR rfl ?_
                  have HO := Lib.hid (KOwns.built (K := KR) W W.heap.size (Nat.le_refl _))
                  have HB0 := Lib.hid (below1 W (.cells #[] KR.T))
                  refine hK.out _ _ (RtS.below (below1 _ _) hS) (fun hS => ?_)
                  clear hK K
                  try simp only [Act.put, List.setIfInBounds_toArray, List.set_cons_zero, List.set_cons_succ]
                  refine seqActs2 4 9 rfl rfl (by kernel_rfl) rfl (fun K hK => ?_) rfl (fun K hK => ?_)
                  · refine kappendWp KR okR (.tmp 56) (.tmp 59) rfl W.heap.size _ [] (L.take c) rfl HO.out _ rfl (hS.1.2.1.upto hcl) HB0.out.size (by simp; omega) (fun v5 w5 ho5 hg5 => ?_)
                    have HB5 := Lib.hid (kbelowOwn HB0.out HO.out (Nat.le_refl _) hg5)
                    have HO5 := Lib.hid ho5
                    have S5 := RtS.below HB5.out HSW.out
                    clear ho5 hg5 HO HB0
                    refine hK.out _ _ S5 (fun hS => ?_)
                    clear hK K S5
                    try simp only [Act.put, List.setIfInBounds_toArray, List.set_cons_zero, List.set_cons_succ]
                    refine seqCall 9 rfl (by kernel_rfl) rfl (fun K hK => ?_)
                    refine kbuildOneWp KR okR #[Value.int IntKind.u64 0, Value.int IntKind.u64 0, Value.int IntKind.u64 0, Value.int IntKind.u64 0, Value.int IntKind.u64 0, Value.int IntKind.u64 0, Value.int IntKind.u64 0, Value.int IntKind.u64 0, Value.int IntKind.u64 0, Value.int IntKind.u64 0, Value.int IntKind.u64 0, Value.int IntKind.u64 0, Value.int IntKind.u64 0, Value.int IntKind.u64 0, Value.int IntKind.u64 0, Value.int IntKind.u64 0, Value.int IntKind.u64 0, Value.int IntKind.u64 0, Value.int IntKind.u64 0, Value.int IntKind.u64 0, Value.int IntKind.u64 0, Value.int IntKind.u64 0, Value.int IntKind.u64 0, Value.int IntKind.u64 0, Value.int IntKind.i64 0, Value.slice none 0 0, Value.int IntKind.i64 0, Value.int IntKind.i64 0, Value.int IntKind.i64 0, Value.int IntKind.i64 0, Value.int IntKind.i64 0, Value.int IntKind.i64 0] zeroR (.tmp 64) rfl (rca x) rfl (by decide) (fillOne x) ?_
                    have RX := Lib.hid (Blk.new w5 (rca x) KR.T)
                    have HO6 := Lib.hid (HO5.out.below (below1 w5 (.cells (rca x) KR.T)))
                    have HB6 := Lib.hid (HB5.out.trans ((below1 w5 (.cells (rca x) KR.T)).mono HB5.out.size))
                    clear HO5 HB5
                    refine hK.out _ _ (RtS.below (below1 _ _) hS) (fun hS => ?_)
                    clear hK K
                    try simp only [Act.put, List.setIfInBounds_toArray, List.set_cons_zero, List.set_cons_succ]
                    refine seqCall 10 rfl (by kernel_rfl) rfl (fun K hK => ?_)
                    refine kappendWp KR okR (.tmp 60) (.tmp 65) rfl W.heap.size v5 ([] ++ L.take c) [x] rfl HO6.out _ rfl (Blk.klies (l := [x]) RX.out okR (by simp [Kd.flat, rca])) HB6.out.size (by simp; omega) (fun v7 w7 ho7 hg7 => ?_)
                    have HB7 := Lib.hid (kbelowOwn HB6.out HO6.out (Nat.le_refl _) hg7)
                    have HO7 := Lib.hid ho7
                    have S7 := RtS.below HB7.out HSW.out
                    clear ho7 hg7 HO6 HB6 RX
                    refine hK.out _ _ S7 (fun hS => ?_)
                    clear hK K S7
                    try simp only [Act.put, List.setIfInBounds_toArray, List.set_cons_zero, List.set_cons_succ]
                    refine seqCall 12 rfl (by kernel_rfl) rfl (fun K hK => ?_)
                    refine kappendWp KR okR (.tmp 66) (.tmp 67) rfl W.heap.size v7 ([] ++ L.take c ++ [x]) R rfl HO7.out _ rfl hS.2 HB7.out.size (by simp; omega) (fun v8 w8 ho8 hg8 => ?_)
                    have HB8 := Lib.hid (kbelowOwn HB7.out HO7.out (Nat.le_refl _) hg8)
                    have HO8 := Lib.hid ho8
                    have S8 := RtS.below HB8.out HSW.out
                    clear ho8 hg8 HO7 HB7
                    refine hK.out _ _ S8 (fun hS => ?_)
                    clear hK K S8
                    try simp only [Act.put, List.setIfInBounds_toArray, List.set_cons_zero, List.set_cons_succ]
                    refine seqRead 13 (v := _) rfl (by kernel_rfl) (by kernel_rfl) (by kernel_rfl) (fun _ _ _ h => h) rfl (fun w hSw => by go_simp <;> with_reducible rfl) hS ?_
                    try simp only [Act.put, List.setIfInBounds_toArray, List.set_cons_zero, List.set_cons_succ]
                    refine seqDone (by kernel_rfl) ?_
                    have HS8 := Lib.hid hS
                    have HON := Lib.hid (show KOwns KR w.heap.size v8 (tblM (l.take (r + 1))) w8 by
                      have h : KOwns KR W.heap.size v8 (L.take c ++ x :: R) w8 := by simpa using HO8.out
                      rw [HFN.out]
                      exact h.mono hWs)
                    clear hS HO8 HB8 HSW
                    go_wp2_with fail
                    go_roundg (l.length - (r + 1))
                    case measure => omega
                    case rel => exact ⟨r + 1, _, by omega, by go_num, rfl, HS8.out.1.1, HON.out, HS8.out.1.2.2⟩
                  · refine kbuildOneWp KR okR #[Value.int IntKind.u64 0, Value.int IntKind.u64 0, Value.int IntKind.u64 0, Value.int IntKind.u64 0, Value.int IntKind.u64 0, Value.int IntKind.u64 0, Value.int IntKind.u64 0, Value.int IntKind.u64 0, Value.int IntKind.u64 0, Value.int IntKind.u64 0, Value.int IntKind.u64 0, Value.int IntKind.u64 0, Value.int IntKind.u64 0, Value.int IntKind.u64 0, Value.int IntKind.u64 0, Value.int IntKind.u64 0, Value.int IntKind.u64 0, Value.int IntKind.u64 0, Value.int IntKind.u64 0, Value.int IntKind.u64 0, Value.int IntKind.u64 0, Value.int IntKind.u64 0, Value.int IntKind.u64 0, Value.int IntKind.u64 0, Value.int IntKind.i64 0, Value.slice none 0 0, Value.int IntKind.i64 0, Value.int IntKind.i64 0, Value.int IntKind.i64 0, Value.int IntKind.i64 0, Value.int IntKind.i64 0, Value.int IntKind.i64 0] zeroR (.tmp 64) rfl (rca x) rfl (by decide) (fillOne x) ?_
                    have RX1 := Lib.hid (Blk.new (W.alloc (.cells #[] KR.T)) (rca x) KR.T)
                    have HO1 := Lib.hid (HO.out.below (below1 (W.alloc (.cells #[] KR.T)) (.cells (rca x) KR.T)))
                    have HB1 := Lib.hid (HB0.out.trans ((below1 (W.alloc (.cells #[] KR.T)) (.cells (rca x) KR.T)).mono HB0.out.size))
                    have hne : (W.alloc (.cells #[] KR.T)).heap.size ≠ W.heap.size := by have := (Blk.new W #[] KR.T).lt; omega
                    clear HO HB0
                    refine hK.out _ _ (RtS.below (below1 _ _) hS) (fun hS => ?_)
                    clear hK K
                    try simp only [Act.put, List.setIfInBounds_toArray, List.set_cons_zero, List.set_cons_succ]
                    refine seqCall 4 rfl (by kernel_rfl) rfl (fun K hK => ?_)
                    refine kappendWp KR okR (.tmp 56) (.tmp 59) rfl W.heap.size _ [] (L.take c) rfl HO1.out _ rfl (hS.1.2.1.upto hcl) HB1.out.size (by simp; omega) (fun v5 w5 ho5 hg5 => ?_)
                    have HB5 := Lib.hid (kbelowOwn HB1.out HO1.out (Nat.le_refl _) hg5)
                    have HO5 := Lib.hid ho5
                    have RX5 := Lib.hid (show Blk _ (rca x) KR.T w5 from (hg5.block _ RX1.out.lt (fun e => hne (by injection e))).trans RX1.out)
                    clear RX1 hne
                    have S5 := RtS.below HB5.out HSW.out
                    clear ho5 hg5 HO1 HB1
                    refine hK.out _ _ S5 (fun hS => ?_)
                    clear hK K S5
                    try simp only [Act.put, List.setIfInBounds_toArray, List.set_cons_zero, List.set_cons_succ]
                    refine seqCall 10 rfl (by kernel_rfl) rfl (fun K hK => ?_)
                    refine kappendWp KR okR (.tmp 60) (.tmp 65) rfl W.heap.size v5 ([] ++ L.take c) [x] rfl HO5.out _ rfl (Blk.klies (l := [x]) RX5.out okR (by simp [Kd.flat, rca])) HB5.out.size (by simp; omega) (fun v7 w7 ho7 hg7 => ?_)
                    have HB7 := Lib.hid (kbelowOwn HB5.out HO5.out (Nat.le_refl _) hg7)
                    have HO7 := Lib.hid ho7
                    have S7 := RtS.below HB7.out HSW.out
                    clear ho7 hg7 HO5 HB5 RX5
                    refine hK.out _ _ S7 (fun hS => ?_)
                    clear hK K S7
                    try simp only [Act.put, List.setIfInBounds_toArray, List.set_cons_zero, List.set_cons_succ]
                    refine seqCall 12 rfl (by kernel_rfl) rfl (fun K hK => ?_)
                    refine kappendWp KR okR (.tmp 66) (.tmp 67) rfl W.heap.size v7 ([] ++ L.take c ++ [x]) R rfl HO7.out _ rfl hS.2 HB7.out.size (by simp; omega) (fun v8 w8 ho8 hg8 => ?_)
                    have HB8 := Lib.hid (kbelowOwn HB7.out HO7.out (Nat.le_refl _) hg8)
                    have HO8 := Lib.hid ho8
                    have S8 := RtS.below HB8.out HSW.out
                    clear ho8 hg8 HO7 HB7
                    refine hK.out _ _ S8 (fun hS => ?_)
                    clear hK K S8
                    try simp only [Act.put, List.setIfInBounds_toArray, List.set_cons_zero, List.set_cons_succ]
                    refine seqRead 13 (v := _) rfl (by kernel_rfl) (by kernel_rfl) (by kernel_rfl) (fun _ _ _ h => h) rfl (fun w hSw => by go_simp <;> with_reducible rfl) hS ?_
                    try simp only [Act.put, List.setIfInBounds_toArray, List.set_cons_zero, List.set_cons_succ]
                    refine seqDone (by kernel_rfl) ?_
                    have HS8 := Lib.hid hS
                    have HON := Lib.hid (show KOwns KR w.heap.size v8 (tblM (l.take (r + 1))) w8 by
                      have h : KOwns KR W.heap.size v8 (L.take c ++ x :: R) w8 := by simpa using HO8.out
                      rw [HFN.out]
                      exact h.mono hWs)
                    clear hS HO8 HB8 HSW
                    go_wp2_with fail
                    go_roundg (l.length - (r + 1))
                    case measure => omega
                    case rel => exact ⟨r + 1, _, by omega, by go_num, rfl, HS8.out.1.1, HON.out, HS8.out.1.2.2⟩
                · refine kbuildOneWp KR okR #[Value.int IntKind.u64 0, Value.int IntKind.u64 0, Value.int IntKind.u64 0, Value.int IntKind.u64 0, Value.int IntKind.u64 0, Value.int IntKind.u64 0, Value.int IntKind.u64 0, Value.int IntKind.u64 0, Value.int IntKind.u64 0, Value.int IntKind.u64 0, Value.int IntKind.u64 0, Value.int IntKind.u64 0, Value.int IntKind.u64 0, Value.int IntKind.u64 0, Value.int IntKind.u64 0, Value.int IntKind.u64 0, Value.int IntKind.u64 0, Value.int IntKind.u64 0, Value.int IntKind.u64 0, Value.int IntKind.u64 0, Value.int IntKind.u64 0, Value.int IntKind.u64 0, Value.int IntKind.u64 0, Value.int IntKind.u64 0, Value.int IntKind.i64 0, Value.slice none 0 0, Value.int IntKind.i64 0, Value.int IntKind.i64 0, Value.int IntKind.i64 0, Value.int IntKind.i64 0, Value.int IntKind.i64 0, Value.int IntKind.i64 0] zeroR (.tmp 64) rfl (rca x) rfl (by decide) (fillOne x) ?_
                  have RX := Lib.hid (Blk.new W (rca x) KR.T)
                  refine hK.out _ _ (RtS.below (below1 _ _) hS) (fun hS => ?_)
                  clear hK K
                  try simp only [Act.put, List.setIfInBounds_toArray, List.set_cons_zero, List.set_cons_succ]
                  refine seqCall 0 rfl (by kernel_rfl) rfl (fun K hK => ?_)
                  refine kbuildNoneWp KR okR rfl ?_
                  have HO := Lib.hid (KOwns.built (K := KR) (W.alloc (.cells (rca x) KR.T)) W.heap.size (below1 W (.cells (rca x) KR.T)).size)
                  have HB0 := Lib.hid ((below1 W (.cells (rca x) KR.T)).trans ((below1 (W.alloc (.cells (rca x) KR.T)) (.cells #[] KR.T)).mono (below1 W (.cells (rca x) KR.T)).size))
                  have RX1 := Lib.hid (RX.out.old (.cells #[] KR.T))
                  have hne : W.heap.size ≠ (W.alloc (.cells (rca x) KR.T)).heap.size := by have := RX.out.lt; omega
                  clear RX
                  refine hK.out _ _ (RtS.below (below1 _ _) hS) (fun hS => ?_)
                  clear hK K
                  try simp only [Act.put, List.setIfInBounds_toArray, List.set_cons_zero, List.set_cons_succ]
                  refine seqCall 4 rfl (by kernel_rfl) rfl (fun K hK => ?_)
                  refine kappendWp KR okR (.tmp 56) (.tmp 59) rfl W.heap.size _ [] (L.take c) rfl HO.out _ rfl (hS.1.2.1.upto hcl) HB0.out.size (by simp; omega) (fun v5 w5 ho5 hg5 => ?_)
                  have HB5 := Lib.hid (kbelowOwn HB0.out HO.out (Nat.le_refl _) hg5)
                  have HO5 := Lib.hid ho5
                  have RX5 := Lib.hid (show Blk _ (rca x) KR.T w5 from (hg5.block _ RX1.out.lt (fun e => hne (by injection e))).trans RX1.out)
                  clear RX1 hne
                  have S5 := RtS.below HB5.out HSW.out
                  clear ho5 hg5 HO HB0
                  refine hK.out _ _ S5 (fun hS => ?_)
                  clear hK K S5
                  try simp only [Act.put, List.setIfInBounds_toArray, List.set_cons_zero, List.set_cons_succ]
                  refine seqCall 10 rfl (by kernel_rfl) rfl (fun K hK => ?_)
                  refine kappendWp KR okR (.tmp 60) (.tmp 65) rfl W.heap.size v5 ([] ++ L.take c) [x] rfl HO5.out _ rfl (Blk.klies (l := [x]) RX5.out okR (by simp [Kd.flat, rca])) HB5.out.size (by simp; omega) (fun v7 w7 ho7 hg7 => ?_)
                  have HB7 := Lib.hid (kbelowOwn HB5.out HO5.out (Nat.le_refl _) hg7)
                  have HO7 := Lib.hid ho7
                  have S7 := RtS.below HB7.out HSW.out
                  clear ho7 hg7 HO5 HB5 RX5
                  refine hK.out _ _ S7 (fun hS => ?_)
                  clear hK K S7
                  try simp only [Act.put, List.setIfInBounds_toArray, List.set_cons_zero, List.set_cons_succ]
                  refine seqCall 12 rfl (by kernel_rfl) rfl (fun K hK => ?_)
                  refine kappendWp KR okR (.tmp 66) (.tmp 67) rfl W.heap.size v7 ([] ++ L.take c ++ [x]) R rfl HO7.out _ rfl hS.2 HB7.out.size (by simp; omega) (fun v8 w8 ho8 hg8 => ?_)
                  have HB8 := Lib.hid (kbelowOwn HB7.out HO7.out (Nat.le_refl _) hg8)
                  have HO8 := Lib.hid ho8
                  have S8 := RtS.below HB8.out HSW.out
                  clear ho8 hg8 HO7 HB7
                  refine hK.out _ _ S8 (fun hS => ?_)
                  clear hK K S8
                  try simp only [Act.put, List.setIfInBounds_toArray, List.set_cons_zero, List.set_cons_succ]
                  refine seqRead 13 (v := _) rfl (by kernel_rfl) (by kernel_rfl) (by kernel_rfl) (fun _ _ _ h => h) rfl (fun w hSw => by go_simp <;> with_reducible rfl) hS ?_
                  try simp only [Act.put, List.setIfInBounds_toArray, List.set_cons_zero, List.set_cons_succ]
                  refine seqDone (by kernel_rfl) ?_
                  have HS8 := Lib.hid hS
                  have HON := Lib.hid (show KOwns KR w.heap.size v8 (tblM (l.take (r + 1))) w8 by
                    have h : KOwns KR W.heap.size v8 (L.take c ++ x :: R) w8 := by simpa using HO8.out
                    rw [HFN.out]
                    exact h.mono hWs)
                  clear hS HO8 HB8 HSW
                  go_wp2_with fail
                  go_roundg (l.length - (r + 1))
                  case measure => omega
                  case rel => exact ⟨r + 1, _, by omega, by go_num, rfl, HS8.out.1.1, HON.out, HS8.out.1.2.2⟩
              · have HK := Lib.hid (fun (W : World) => rkey_any y x W)
                rw [hkey] at HK
                have KEY0 : rOrd y.u x.u = 0 := by rw [key_ord] at hkey; simpa using hkey
                have HKEY0 := Lib.hid KEY0
                clear hkey KEY0
                have HLd := Lib.hid (show KLies KR (fromV 32 po L.length co c) (L.drop c) (wr.alloc (.cells #[] KR.T)) from (HS.out.2.1.from hcl).below okR (below1 _ _))
                go_wp2_with (first
                  | (refine kbuildNone KR okR rfl rfl ?_)
                  | (refine wpFrom rfl (.tmp 37) (.tmp 38) rfl po L.length co c rfl rfl hcl ?_)
                  | (refine kappend KR okR rfl (.tmp 36) (.tmp 39) rfl wr.heap.size _ [] (L.drop c) rfl (KOwns.built wr _ (Nat.le_refl _)) _ rfl HLd.out (by simp) (by simp; omega) (fun v2 w2 ho hg => ?_); refine Hid.out ?_))
                have hb2 := kbelowOwn (below1 wr (.cells #[] KR.T)) (KOwns.built (K := KR) wr wr.heap.size (Nat.le_refl _)) (Nat.le_refl _) hg
                obtain ⟨Rst, hRst⟩ : ∃ Rst, Rst = L.drop c := ⟨_, rfl⟩
                have hr2 : KLies KR v2 Rst w2 := by rw [hRst]; exact ho.lies okR
                have HS2 := Lib.hid (show RtS w (.slice (some ⟨b, o, none⟩) l.length cap) l (.slice po L.length co) L v2 Rst w2 from ⟨RsS.below hb2 HS.out, hr2⟩)
                obtain ⟨pr, nR, cr, rfl, hnR⟩ : ∃ pr nR cr, v2 = .slice pr nR cr ∧ nR = Rst.length := by
                  obtain ⟨p', c', e'⟩ := hr2.form
                  exact ⟨p', _, c', e', rfl⟩
                have HnR := Lib.hid hnR
                clear ho hg hb2 hr2 HLd HS
                have hRl : nR = L.length - c := by rw [hnR, hRst, List.length_drop]
                have hR0I : (0 : Int) < (nR : Int) := by omega
                have hR0N : 0 < nR := by omega
                have HRl := Lib.hid hRl
                clear hnR hRl
                have hy0 : Rst[0]? = some y := by rw [hRst, List.getElem?_drop]; exact HYY.out
                obtain ⟨br, or_, rfl, _⟩ := HS2.out.2.at hy0
                have HY0 := Lib.hid hy0
                clear hy0
                refine Lib.hid ?_
                go_upto_region 10 with fail
                refine wp_region_held_drew (S := RtS w (.slice (some ⟨b, o, none⟩) l.length cap) l (.slice po L.length co) L (.slice (some ⟨br, or_, none⟩) nR cr) Rst) (by kernel_rfl) (RtS.below (Below.refl _ _).drew HS2.out) (fun hS => ?_)
                clear HS2
                generalize w2.drew = W at *
                refine seqRead 0 (v := _) rfl (by kernel_rfl) (by kernel_rfl) (by kernel_rfl) (fun _ _ _ h => h) rfl (fun w hSw => by go_simp <;> with_reducible rfl) hS ?_
                try simp only [Act.put, List.setIfInBounds_toArray, List.set_cons_zero, List.set_cons_succ]
                refine seqRead 1 (v := _) rfl (by kernel_rfl) (by kernel_rfl) (by kernel_rfl) (fun _ _ _ h => h) rfl (fun w hSw => by go_simp <;> with_reducible rfl) hS ?_
                try simp only [Act.put, List.setIfInBounds_toArray, List.set_cons_zero, List.set_cons_succ]
                refine seqRead 2 (v := _) rfl (by kernel_rfl) (by kernel_rfl) (by kernel_rfl) (fun _ _ _ h => h) rfl (fun w hSw => by go_simp <;> with_reducible rfl) hS ?_
                try simp only [Act.put, List.setIfInBounds_toArray, List.set_cons_zero, List.set_cons_succ]
                refine seqRead 3 (v := _) rfl (by kernel_rfl) (by kernel_rfl) (by kernel_rfl) (fun _ _ _ h => h) rfl (fun w hSw => by go_simp <;> with_reducible rfl) hS ?_
                try simp only [Act.put, List.setIfInBounds_toArray, List.set_cons_zero, List.set_cons_succ]
                refine seqRead 4 (v := _) rfl (by kernel_rfl) (by kernel_rfl) (by kernel_rfl) (fun _ _ _ h => h) rfl (fun w hSw => by go_simp <;> with_reducible rfl) hS ?_
                try simp only [Act.put, List.setIfInBounds_toArray, List.set_cons_zero, List.set_cons_succ]
                refine seqRead 5 (v := _) rfl (by kernel_rfl) (by kernel_rfl) (by kernel_rfl) (fun _ _ _ h => h) rfl (fun w hSw => by go_simp <;> with_reducible rfl) hS ?_
                try simp only [Act.put, List.setIfInBounds_toArray, List.set_cons_zero, List.set_cons_succ]
                refine seqRead 6 (v := _) rfl (by kernel_rfl) (by kernel_rfl) (by kernel_rfl) (fun _ _ _ h => h) rfl (fun w hSw => execRow rfl br or_ rfl (rcl y) _ (by have h := hSw.2.at' HY0.out; simpa using h) Tryz.underlying88 rfl infoR) hS ?_
                try simp only [Act.put, List.setIfInBounds_toArray, List.set_cons_zero, List.set_cons_succ]
                refine seqRead 7 (v := _) rfl (by kernel_rfl) (by kernel_rfl) (by kernel_rfl) (fun _ _ _ h => h) rfl (fun w hSw => by go_simp <;> with_reducible rfl) hS ?_
                try simp only [Act.put, List.setIfInBounds_toArray, List.set_cons_zero, List.set_cons_succ]
                refine seqRead 8 (v := _) rfl (by kernel_rfl) (by kernel_rfl) (by kernel_rfl) (fun _ _ _ h => h) rfl (fun w hSw => by go_simp <;> with_reducible rfl) hS ?_
                try simp only [Act.put, List.setIfInBounds_toArray, List.set_cons_zero, List.set_cons_succ]
                refine seqRead 9 (v := _) rfl (by kernel_rfl) (by kernel_rfl) (by kernel_rfl) (fun _ _ _ h => h) rfl (fun w hSw => by go_simp <;> with_reducible rfl) hS ?_
                try simp only [Act.put, List.setIfInBounds_toArray, List.set_cons_zero, List.set_cons_succ]
                refine seqRead 10 (v := _) rfl (by kernel_rfl) (by kernel_rfl) (by kernel_rfl) (fun _ _ _ h => h) rfl (fun w hSw => execRow rfl b (o + r * 32) rfl (rcl x) _ (hSw.1.1.1.at' HX.out) Tryz.underlying88 rfl infoR) hS ?_
                try simp only [Act.put, List.setIfInBounds_toArray, List.set_cons_zero, List.set_cons_succ]
                refine seqCall 11 rfl (by kernel_rfl) rfl (fun K hK => ?_)
                go_simp
                refine (HK.out _).mono ?_
                rintro e w1 ⟨rfl, hw1⟩
                refine hK.out _ _ (RtS.below hw1 hS) (fun hS => ?_)
                clear hK K hw1
                try simp only [Act.put, List.setIfInBounds_toArray, List.set_cons_zero, List.set_cons_succ]
                refine seqRead 12 (v := _) rfl (by kernel_rfl) (by kernel_rfl) (by kernel_rfl) (fun _ _ _ h => h) rfl (fun w hSw => by go_simp <;> with_reducible rfl) hS ?_
                try simp only [Act.put, List.setIfInBounds_toArray, List.set_cons_zero, List.set_cons_succ]
                refine seqDone (by kernel_rfl) ?_
                have HS3 := Lib.hid hS
                clear hS
                have HR1 := Lib.hid (show KLies KR (fromV 32 (some ⟨br, or_, none⟩) nR cr 1) (Rst.drop 1) w1 from HnR.out ▸ KLies.from (HnR.out ▸ HS3.out.2) (by have := HnR.out; omega))
                go_upto_region 12 with (refine wpFrom rfl (.tmp 54) (.const (.int .i64 1)) rfl (some ⟨br, or_, none⟩) nR cr 1 rfl rfl (by omega) ?_)
                generalize hrv : fromV 32 (some ⟨br, or_, none⟩) nR cr 1 = rv at *
                obtain ⟨R, hR⟩ : ∃ R, R = Rst.drop 1 := ⟨_, rfl⟩
                have HR2 := Lib.hid (show KLies KR rv R w1 by rw [hR]; exact HR1.out)
                have HS4 := Lib.hid (show RtS w (.slice (some ⟨b, o, none⟩) l.length cap) l (.slice po L.length co) L rv R w1 from ⟨HS3.out.1, HR2.out⟩)
                have HFN := Lib.hid (show tblM (l.take (r + 1)) = L.take c ++ x :: R by rw [tblM_snoc HX.out HSN.out, ← HLT.out, ins_same HQ2.out HYY.out HKEY0.out, hR, hRst, List.drop_drop])
                have hRl2 : R.length ≤ 100000 := by rw [hR, List.length_drop, hRst, List.length_drop]; omega
                clear HR1 HR2 HS3 hrv hR hRst
                refine wp_region_held_drew (S := RtS w (.slice (some ⟨b, o, none⟩) l.length cap) l (.slice po L.length co) L rv R) (by kernel_rfl) (RtS.below (Below.refl _ _).drew HS4.out) (fun hS => ?_)
                clear HS4
                generalize w1.drew = W at *
                have HSW := Lib.hid hS
                have hWs : w.heap.size ≤ W.heap.size := hS.1.2.2.kept.size
                refine seqRead 1 (v := _) rfl (by kernel_rfl) (by kernel_rfl) (by kernel_rfl) (fun _ _ _ h => h) rfl (fun w hSw => by go_simp <;> with_reducible rfl) hS ?_
                try simp only [Act.put, List.setIfInBounds_toArray, List.set_cons_zero, List.set_cons_succ]
                refine seqRead 2 (v := _) rfl (by kernel_rfl) (by kernel_rfl) (by kernel_rfl) (fun _ _ _ h => h) rfl (fun w hSw => by go_simp <;> with_reducible rfl) hS ?_
                try simp only [Act.put, List.setIfInBounds_toArray, List.set_cons_zero, List.set_cons_succ]
                refine seqRead 3 (v := _) rfl (by kernel_rfl) (by kernel_rfl) (by kernel_rfl) (fun _ _ _ h => h) rfl (fun w hSw => execUpto rfl po L.length co c rfl rfl hcl hcap) hS ?_
                try simp only [Act.put, List.setIfInBounds_toArray, List.set_cons_zero, List.set_cons_succ]
                refine seqRead 5 (v := _) rfl (by kernel_rfl) (by kernel_rfl) (by kernel_rfl) (fun _ _ _ h => h) rfl (fun w hSw => by go_simp <;> with_reducible rfl) hS ?_
                try simp only [Act.put, List.setIfInBounds_toArray, List.set_cons_zero, List.set_cons_succ]
                refine seqRead 6 (v := _) rfl (by kernel_rfl) (by kernel_rfl) (by kernel_rfl) (fun _ _ _ h => h) rfl (fun w hSw => by go_simp <;> with_reducible rfl) hS ?_
                try simp only [Act.put, List.setIfInBounds_toArray, List.set_cons_zero, List.set_cons_succ]
                refine seqRead 7 (v := _) rfl (by kernel_rfl) (by kernel_rfl) (by kernel_rfl) (fun _ _ _ h => h) rfl (fun w hSw => by go_simp <;> with_reducible rfl) hS ?_
                try simp only [Act.put, List.setIfInBounds_toArray, List.set_cons_zero, List.set_cons_succ]
                refine seqRead 8 (v := _) rfl (by kernel_rfl) (by kernel_rfl) (by kernel_rfl) (fun _ _ _ h => h) rfl (fun w hSw => execRow rfl b (o + r * 32) rfl (rcl x) _ (hSw.1.1.1.at' HX.out) Tryz.underlying88 rfl infoR) hS ?_
                try simp only [Act.put, List.setIfInBounds_toArray, List.set_cons_zero, List.set_cons_succ]
                refine seqRead 11 (v := _) rfl (by kernel_rfl) (by kernel_rfl) (by kernel_rfl) (fun _ _ _ h => h) rfl (fun w hSw => by go_simp <;> with_reducible rfl) hS ?_
                try simp only [Act.put, List.setIfInBounds_toArray, List.set_cons_zero, List.set_cons_succ]
                refine seqActs2 0 9 rfl rfl (by kernel_rfl) rfl (fun K hK => ?_) rfl (fun K hK => ?_)
                · refine kbuildNoneWp KR okR rfl ?_
                  have HO := Lib.hid (KOwns.built (K := KR) W W.heap.size (Nat.le_refl _))
                  have HB0 := Lib.hid (below1 W (.cells #[] KR.T))
                  refine hK.out _ _ (RtS.below (below1 _ _) hS) (fun hS => ?_)
                  clear hK K
                  try simp only [Act.put, List.setIfInBounds_toArray, List.set_cons_zero, List.set_cons_succ]
                  refine seqActs2 4 9 rfl rfl (by kernel_rfl) rfl (fun K hK => ?_) rfl (fun K hK => ?_)
                  · refine kappendWp KR okR (.tmp 56) (.tmp 59) rfl W.heap.size _ [] (L.take c) rfl HO.out _ rfl (hS.1.2.1.upto hcl) HB0.out.size (by simp; omega) (fun v5 w5 ho5 hg5 => ?_)
                    have HB5 := Lib.hid (kbelowOwn HB0.out HO.out (Nat.le_refl _) hg5)
                    have HO5 := Lib.hid ho5
                    have S5 := RtS.below HB5.out HSW.out
                    clear ho5 hg5 HO HB0
                    refine hK.out _ _ S5 (fun hS => ?_)
                    clear hK K S5
                    try simp only [Act.put, List.setIfInBounds_toArray, List.set_cons_zero, List.set_cons_succ]
                    refine seqCall 9 rfl (by kernel_rfl) rfl (fun K hK => ?_)
                    refine kbuildOneWp KR okR #[Value.int IntKind.u64 0, Value.int IntKind.u64 0, Value.int IntKind.u64 0, Value.int IntKind.u64 0, Value.int IntKind.u64 0, Value.int IntKind.u64 0, Value.int IntKind.u64 0, Value.int IntKind.u64 0, Value.int IntKind.u64 0, Value.int IntKind.u64 0, Value.int IntKind.u64 0, Value.int IntKind.u64 0, Value.int IntKind.u64 0, Value.int IntKind.u64 0, Value.int IntKind.u64 0, Value.int IntKind.u64 0, Value.int IntKind.u64 0, Value.int IntKind.u64 0, Value.int IntKind.u64 0, Value.int IntKind.u64 0, Value.int IntKind.u64 0, Value.int IntKind.u64 0, Value.int IntKind.u64 0, Value.int IntKind.u64 0, Value.int IntKind.i64 0, Value.slice none 0 0, Value.int IntKind.i64 0, Value.int IntKind.i64 0, Value.int IntKind.i64 0, Value.int IntKind.i64 0, Value.int IntKind.i64 0, Value.int IntKind.i64 0] zeroR (.tmp 64) rfl (rca x) rfl (by decide) (fillOne x) ?_
                    have RX := Lib.hid (Blk.new w5 (rca x) KR.T)
                    have HO6 := Lib.hid (HO5.out.below (below1 w5 (.cells (rca x) KR.T)))
                    have HB6 := Lib.hid (HB5.out.trans ((below1 w5 (.cells (rca x) KR.T)).mono HB5.out.size))
                    clear HO5 HB5
                    refine hK.out _ _ (RtS.below (below1 _ _) hS) (fun hS => ?_)
                    clear hK K
                    try simp only [Act.put, List.setIfInBounds_toArray, List.set_cons_zero, List.set_cons_succ]
                    refine seqCall 10 rfl (by kernel_rfl) rfl (fun K hK => ?_)
                    refine kappendWp KR okR (.tmp 60) (.tmp 65) rfl W.heap.size v5 ([] ++ L.take c) [x] rfl HO6.out _ rfl (Blk.klies (l := [x]) RX.out okR (by simp [Kd.flat, rca])) HB6.out.size (by simp; omega) (fun v7 w7 ho7 hg7 => ?_)
                    have HB7 := Lib.hid (kbelowOwn HB6.out HO6.out (Nat.le_refl _) hg7)
                    have HO7 := Lib.hid ho7
                    have S7 := RtS.below HB7.out HSW.out
                    clear ho7 hg7 HO6 HB6 RX
                    refine hK.out _ _ S7 (fun hS => ?_)
                    clear hK K S7
                    try simp only [Act.put, List.setIfInBounds_toArray, List.set_cons_zero, List.set_cons_succ]
                    refine seqCall 12 rfl (by kernel_rfl) rfl (fun K hK => ?_)
                    refine kappendWp KR okR (.tmp 66) (.tmp 67) rfl W.heap.size v7 ([] ++ L.take c ++ [x]) R rfl HO7.out _ rfl hS.2 HB7.out.size (by simp; omega) (fun v8 w8 ho8 hg8 => ?_)
                    have HB8 := Lib.hid (kbelowOwn HB7.out HO7.out (Nat.le_refl _) hg8)
                    have HO8 := Lib.hid ho8
                    have S8 := RtS.below HB8.out HSW.out
                    clear ho8 hg8 HO7 HB7
                    refine hK.out _ _ S8 (fun hS => ?_)
                    clear hK K S8
                    try simp only [Act.put, List.setIfInBounds_toArray, List.set_cons_zero, List.set_cons_succ]
                    refine seqRead 13 (v := _) rfl (by kernel_rfl) (by kernel_rfl) (by kernel_rfl) (fun _ _ _ h => h) rfl (fun w hSw => by go_simp <;> with_reducible rfl) hS ?_
                    try simp only [Act.put, List.setIfInBounds_toArray, List.set_cons_zero, List.set_cons_succ]
                    refine seqDone (by kernel_rfl) ?_
                    have HS8 := Lib.hid hS
                    have HON := Lib.hid (show KOwns KR w.heap.size v8 (tblM (l.take (r + 1))) w8 by
                      have h : KOwns KR W.heap.size v8 (L.take c ++ x :: R) w8 := by simpa using HO8.out
                      rw [HFN.out]
                      exact h.mono hWs)
                    clear hS HO8 HB8 HSW
                    go_wp2_with fail
                    go_roundg (l.length - (r + 1))
                    case measure => omega
                    case rel => exact ⟨r + 1, _, by omega, by go_num, rfl, HS8.out.1.1, HON.out, HS8.out.1.2.2⟩
                  · refine kbuildOneWp KR okR #[Value.int IntKind.u64 0, Value.int IntKind.u64 0, Value.int IntKind.u64 0, Value.int IntKind.u64 0, Value.int IntKind.u64 0, Value.int IntKind.u64 0, Value.int IntKind.u64 0, Value.int IntKind.u64 0, Value.int IntKind.u64 0, Value.int IntKind.u64 0, Value.int IntKind.u64 0, Value.int IntKind.u64 0, Value.int IntKind.u64 0, Value.int IntKind.u64 0, Value.int IntKind.u64 0, Value.int IntKind.u64 0, Value.int IntKind.u64 0, Value.int IntKind.u64 0, Value.int IntKind.u64 0, Value.int IntKind.u64 0, Value.int IntKind.u64 0, Value.int IntKind.u64 0, Value.int IntKind.u64 0, Value.int IntKind.u64 0, Value.int IntKind.i64 0, Value.slice none 0 0, Value.int IntKind.i64 0, Value.int IntKind.i64 0, Value.int IntKind.i64 0, Value.int IntKind.i64 0, Value.int IntKind.i64 0, Value.int IntKind.i64 0] zeroR (.tmp 64) rfl (rca x) rfl (by decide) (fillOne x) ?_
                    have RX1 := Lib.hid (Blk.new (W.alloc (.cells #[] KR.T)) (rca x) KR.T)
                    have HO1 := Lib.hid (HO.out.below (below1 (W.alloc (.cells #[] KR.T)) (.cells (rca x) KR.T)))
                    have HB1 := Lib.hid (HB0.out.trans ((below1 (W.alloc (.cells #[] KR.T)) (.cells (rca x) KR.T)).mono HB0.out.size))
                    have hne : (W.alloc (.cells #[] KR.T)).heap.size ≠ W.heap.size := by have := (Blk.new W #[] KR.T).lt; omega
                    clear HO HB0
                    refine hK.out _ _ (RtS.below (below1 _ _) hS) (fun hS => ?_)
                    clear hK K
                    try simp only [Act.put, List.setIfInBounds_toArray, List.set_cons_zero, List.set_cons_succ]
                    refine seqCall 4 rfl (by kernel_rfl) rfl (fun K hK => ?_)
                    refine kappendWp KR okR (.tmp 56) (.tmp 59) rfl W.heap.size _ [] (L.take c) rfl HO1.out _ rfl (hS.1.2.1.upto hcl) HB1.out.size (by simp; omega) (fun v5 w5 ho5 hg5 => ?_)
                    have HB5 := Lib.hid (kbelowOwn HB1.out HO1.out (Nat.le_refl _) hg5)
                    have HO5 := Lib.hid ho5
                    have RX5 := Lib.hid (show Blk _ (rca x) KR.T w5 from (hg5.block _ RX1.out.lt (fun e => hne (by injection e))).trans RX1.out)
                    clear RX1 hne
                    have S5 := RtS.below HB5.out HSW.out
                    clear ho5 hg5 HO1 HB1
                    refine hK.out _ _ S5 (fun hS => ?_)
                    clear hK K S5
                    try simp only [Act.put, List.setIfInBounds_toArray, List.set_cons_zero, List.set_cons_succ]
                    refine seqCall 10 rfl (by kernel_rfl) rfl (fun K hK => ?_)
                    refine kappendWp KR okR (.tmp 60) (.tmp 65) rfl W.heap.size v5 ([] ++ L.take c) [x] rfl HO5.out _ rfl (Blk.klies (l := [x]) RX5.out okR (by simp [Kd.flat, rca])) HB5.out.size (by simp; omega) (fun v7 w7 ho7 hg7 => ?_)
                    have HB7 := Lib.hid (kbelowOwn HB5.out HO5.out (Nat.le_refl _) hg7)
                    have HO7 := Lib.hid ho7
                    have S7 := RtS.below HB7.out HSW.out
                    clear ho7 hg7 HO5 HB5 RX5
                    refine hK.out _ _ S7 (fun hS => ?_)
                    clear hK K S7
                    try simp only [Act.put, List.setIfInBounds_toArray, List.set_cons_zero, List.set_cons_succ]
                    refine seqCall 12 rfl (by kernel_rfl) rfl (fun K hK => ?_)
                    refine kappendWp KR okR (.tmp 66) (.tmp 67) rfl W.heap.size v7 ([] ++ L.take c ++ [x]) R rfl HO7.out _ rfl hS.2 HB7.out.size (by simp; omega) (fun v8 w8 ho8 hg8 => ?_)
                    have HB8 := Lib.hid (kbelowOwn HB7.out HO7.out (Nat.le_refl _) hg8)
                    have HO8 := Lib.hid ho8
                    have S8 := RtS.below HB8.out HSW.out
                    clear ho8 hg8 HO7 HB7
                    refine hK.out _ _ S8 (fun hS => ?_)
                    clear hK K S8
                    try simp only [Act.put, List.setIfInBounds_toArray, List.set_cons_zero, List.set_cons_succ]
                    refine seqRead 13 (v := _) rfl (by kernel_rfl) (by kernel_rfl) (by kernel_rfl) (fun _ _ _ h => h) rfl (fun w hSw => by go_simp <;> with_reducible rfl) hS ?_
                    try simp only [Act.put, List.setIfInBounds_toArray, List.set_cons_zero, List.set_cons_succ]
                    refine seqDone (by kernel_rfl) ?_
                    have HS8 := Lib.hid hS
                    have HON := Lib.hid (show KOwns KR w.heap.size v8 (tblM (l.take (r + 1))) w8 by
                      have h : KOwns KR W.heap.size v8 (L.take c ++ x :: R) w8 := by simpa using HO8.out
                      rw [HFN.out]
                      exact h.mono hWs)
                    clear hS HO8 HB8 HSW
                    go_wp2_with fail
                    go_roundg (l.length - (r + 1))
                    case measure => omega
                    case rel => exact ⟨r + 1, _, by omega, by go_num, rfl, HS8.out.1.1, HON.out, HS8.out.1.2.2⟩
                · refine kbuildOneWp KR okR #[Value.int IntKind.u64 0, Value.int IntKind.u64 0, Value.int IntKind.u64 0, Value.int IntKind.u64 0, Value.int IntKind.u64 0, Value.int IntKind.u64 0, Value.int IntKind.u64 0, Value.int IntKind.u64 0, Value.int IntKind.u64 0, Value.int IntKind.u64 0, Value.int IntKind.u64 0, Value.int IntKind.u64 0, Value.int IntKind.u64 0, Value.int IntKind.u64 0, Value.int IntKind.u64 0, Value.int IntKind.u64 0, Value.int IntKind.u64 0, Value.int IntKind.u64 0, Value.int IntKind.u64 0, Value.int IntKind.u64 0, Value.int IntKind.u64 0, Value.int IntKind.u64 0, Value.int IntKind.u64 0, Value.int IntKind.u64 0, Value.int IntKind.i64 0, Value.slice none 0 0, Value.int IntKind.i64 0, Value.int IntKind.i64 0, Value.int IntKind.i64 0, Value.int IntKind.i64 0, Value.int IntKind.i64 0, Value.int IntKind.i64 0] zeroR (.tmp 64) rfl (rca x) rfl (by decide) (fillOne x) ?_
                  have RX := Lib.hid (Blk.new W (rca x) KR.T)
                  refine hK.out _ _ (RtS.below (below1 _ _) hS) (fun hS => ?_)
                  clear hK K
                  try simp only [Act.put, List.setIfInBounds_toArray, List.set_cons_zero, List.set_cons_succ]
                  refine seqCall 0 rfl (by kernel_rfl) rfl (fun K hK => ?_)
                  refine kbuildNoneWp KR okR rfl ?_
                  have HO := Lib.hid (KOwns.built (K := KR) (W.alloc (.cells (rca x) KR.T)) W.heap.size (below1 W (.cells (rca x) KR.T)).size)
                  have HB0 := Lib.hid ((below1 W (.cells (rca x) KR.T)).trans ((below1 (W.alloc (.cells (rca x) KR.T)) (.cells #[] KR.T)).mono (below1 W (.cells (rca x) KR.T)).size))
                  have RX1 := Lib.hid (RX.out.old (.cells #[] KR.T))
                  have hne : W.heap.size ≠ (W.alloc (.cells (rca x) KR.T)).heap.size := by have := RX.out.lt; omega
                  clear RX
                  refine hK.out _ _ (RtS.below (below1 _ _) hS) (fun hS => ?_)
                  clear hK K
                  try simp only [Act.put, List.setIfInBounds_toArray, List.set_cons_zero, List.set_cons_succ]
                  refine seqCall 4 rfl (by kernel_rfl) rfl (fun K hK => ?_)
                  refine kappendWp KR okR (.tmp 56) (.tmp 59) rfl W.heap.size _ [] (L.take c) rfl HO.out _ rfl (hS.1.2.1.upto hcl) HB0.out.size (by simp; omega) (fun v5 w5 ho5 hg5 => ?_)
                  have HB5 := Lib.hid (kbelowOwn HB0.out HO.out (Nat.le_refl _) hg5)
                  have HO5 := Lib.hid ho5
                  have RX5 := Lib.hid (show Blk _ (rca x) KR.T w5 from (hg5.block _ RX1.out.lt (fun e => hne (by injection e))).trans RX1.out)
                  clear RX1 hne
                  have S5 := RtS.below HB5.out HSW.out
                  clear ho5 hg5 HO HB0
                  refine hK.out _ _ S5 (fun hS => ?_)
                  clear hK K S5
                  try simp only [Act.put, List.setIfInBounds_toArray, List.set_cons_zero, List.set_cons_succ]
                  refine seqCall 10 rfl (by kernel_rfl) rfl (fun K hK => ?_)
                  refine kappendWp KR okR (.tmp 60) (.tmp 65) rfl W.heap.size v5 ([] ++ L.take c) [x] rfl HO5.out _ rfl (Blk.klies (l := [x]) RX5.out okR (by simp [Kd.flat, rca])) HB5.out.size (by simp; omega) (fun v7 w7 ho7 hg7 => ?_)
                  have HB7 := Lib.hid (kbelowOwn HB5.out HO5.out (Nat.le_refl _) hg7)
                  have HO7 := Lib.hid ho7
                  have S7 := RtS.below HB7.out HSW.out
                  clear ho7 hg7 HO5 HB5 RX5
                  refine hK.out _ _ S7 (fun hS => ?_)
                  clear hK K S7
                  try simp only [Act.put, List.setIfInBounds_toArray, List.set_cons_zero, List.set_cons_succ]
                  refine seqCall 12 rfl (by kernel_rfl) rfl (fun K hK => ?_)
                  refine kappendWp KR okR (.tmp 66) (.tmp 67) rfl W.heap.size v7 ([] ++ L.take c ++ [x]) R rfl HO7.out _ rfl hS.2 HB7.out.size (by simp; omega) (fun v8 w8 ho8 hg8 => ?_)
                  have HB8 := Lib.hid (kbelowOwn HB7.out HO7.out (Nat.le_refl _) hg8)
                  have HO8 := Lib.hid ho8
                  have S8 := RtS.below HB8.out HSW.out
                  clear ho8 hg8 HO7 HB7
                  refine hK.out _ _ S8 (fun hS => ?_)
                  clear hK K S8
                  try simp only [Act.put, List.setIfInBounds_toArray, List.set_cons_zero, List.set_cons_succ]
                  refine seqRead 13 (v := _) rfl (by kernel_rfl) (by kernel_rfl) (by kernel_rfl) (fun _ _ _ h => h) rfl (fun w hSw => by go_simp <;> with_reducible rfl) hS ?_
                  try simp only [Act.put, List.setIfInBounds_toArray, List.set_cons_zero, List.set_cons_succ]
                  refine seqDone (by kernel_rfl) ?_
                  have HS8 := Lib.hid hS
                  have HON := Lib.hid (show KOwns KR w.heap.size v8 (tblM (l.take (r + 1))) w8 by
                    have h : KOwns KR W.heap.size v8 (L.take c ++ x :: R) w8 := by simpa using HO8.out
                    rw [HFN.out]
                    exact h.mono hWs)
                  clear hS HO8 HB8 HSW
                  go_wp2_with fail
                  go_roundg (l.length - (r + 1))
                  case measure => omega
                  case rel => exact ⟨r + 1, _, by omega, by go_num, rfl, HS8.out.1.1, HON.out, HS8.out.1.2.2⟩
          · have hcI : ¬ (c : Int) < (L.length : Int) := by omega
            have HNEW := Lib.hid (show ∀ y', L[c]? = some y' → 0 < rOrd y'.u x.u from fun y' hy' => by have := (List.getElem?_eq_some_iff.1 hy').1; omega)
            go_upto_region 7 with fail
            refine wp_region_held_drew (S := RsS w (.slice (some ⟨b, o, none⟩) l.length cap) l (.slice po L.length co) L) (by kernel_rfl) (RsS.below (Below.refl _ _).drew HS.out) (fun hS => ?_)
            clear HS
            generalize wr.drew = W at *
            refine seqRead 0 (v := _) rfl (by kernel_rfl) (by kernel_rfl) (by kernel_rfl) (fun _ _ _ h => h) rfl (fun w hSw => by go_simp <;> with_reducible rfl) hS ?_
            try simp only [Act.put, List.setIfInBounds_toArray, List.set_cons_zero, List.set_cons_succ]
            refine seqRead 1 (v := _) rfl (by kernel_rfl) (by kernel_rfl) (by kernel_rfl) (fun _ _ _ h => h) rfl (fun w hSw => by go_simp <;> with_reducible rfl) hS ?_
            try simp only [Act.put, List.setIfInBounds_toArray, List.set_cons_zero, List.set_cons_succ]
            refine seqRead 2 (v := _) rfl (by kernel_rfl) (by kernel_rfl) (by kernel_rfl) (fun _ _ _ h => h) rfl (fun w hSw => by go_simp <;> with_reducible rfl) hS ?_
            try simp only [Act.put, List.setIfInBounds_toArray, List.set_cons_zero, List.set_cons_succ]
            refine seqRead 3 (v := _) rfl (by kernel_rfl) (by kernel_rfl) (by kernel_rfl) (fun _ _ _ h => h) rfl (fun w hSw => by go_simp <;> with_reducible rfl) hS ?_
            try simp only [Act.put, List.setIfInBounds_toArray, List.set_cons_zero, List.set_cons_succ]
            refine seqRead 4 (v := _) rfl (by kernel_rfl) (by kernel_rfl) (by kernel_rfl) (fun _ _ _ h => h) rfl (fun w hSw => by go_simp <;> with_reducible rfl) hS ?_
            try simp only [Act.put, List.setIfInBounds_toArray, List.set_cons_zero, List.set_cons_succ]
            refine seqSkip 5 rfl (by kernel_rfl) (by kernel_rfl) (by kernel_rfl) (fun _ _ _ h => h) rfl hS ?_
            try simp only [Act.put, List.setIfInBounds_toArray, List.set_cons_zero, List.set_cons_succ]
            refine seqSkip 6 rfl (by kernel_rfl) (by kernel_rfl) (by kernel_rfl) (fun _ _ _ h => h) rfl hS ?_
            try simp only [Act.put, List.setIfInBounds_toArray, List.set_cons_zero, List.set_cons_succ]
            refine seqSkip 7 rfl (by kernel_rfl) (by kernel_rfl) (by kernel_rfl) (fun _ _ _ h => h) rfl hS ?_
            try simp only [Act.put, List.setIfInBounds_toArray, List.set_cons_zero, List.set_cons_succ]
            refine seqSkip 8 rfl (by kernel_rfl) (by kernel_rfl) (by kernel_rfl) (fun _ _ _ h => h) rfl hS ?_
            try simp only [Act.put, List.setIfInBounds_toArray, List.set_cons_zero, List.set_cons_succ]
            refine seqSkip 9 rfl (by kernel_rfl) (by kernel_rfl) (by kernel_rfl) (fun _ _ _ h => h) rfl hS ?_
            try simp only [Act.put, List.setIfInBounds_toArray, List.set_cons_zero, List.set_cons_succ]
            refine seqSkip 10 rfl (by kernel_rfl) (by kernel_rfl) (by kernel_rfl) (fun _ _ _ h => h) rfl hS ?_
            try simp only [Act.put, List.setIfInBounds_toArray, List.set_cons_zero, List.set_cons_succ]
            refine seqSkip 11 rfl (by kernel_rfl) (by kernel_rfl) (by kernel_rfl) (fun _ _ _ h => h) rfl hS ?_
            try simp only [Act.put, List.setIfInBounds_toArray, List.set_cons_zero, List.set_cons_succ]
            refine seqSkip 12 rfl (by kernel_rfl) (by kernel_rfl) (by kernel_rfl) (fun _ _ _ h => h) rfl hS ?_
            try simp only [Act.put, List.setIfInBounds_toArray, List.set_cons_zero, List.set_cons_succ]
            refine seqSkip 13 rfl (by kernel_rfl) (by kernel_rfl) (by kernel_rfl) (fun _ _ _ h => h) rfl hS ?_
            try simp only [Act.put, List.setIfInBounds_toArray, List.set_cons_zero, List.set_cons_succ]
            refine seqRead 14 (v := _) rfl (by kernel_rfl) (by kernel_rfl) (by kernel_rfl) (fun _ _ _ h => h) rfl (fun w hSw => by go_simp <;> with_reducible rfl) hS ?_
            try simp only [Act.put, List.setIfInBounds_toArray, List.set_cons_zero, List.set_cons_succ]
            refine seqDone (by kernel_rfl) ?_
            have HS := Lib.hid hS
            clear hS
            generalize wr = WZ at *
            generalize W = wr at *
            have HLd := Lib.hid (show KLies KR (fromV 32 po L.length co c) (L.drop c) (wr.alloc (.cells #[] KR.T)) from (HS.out.2.1.from hcl).below okR (below1 _ _))
            go_wp2_with (first
              | (refine kbuildNone KR okR rfl rfl ?_)
              | (refine wpFrom rfl (.tmp 37) (.tmp 38) rfl po L.length co c rfl rfl hcl ?_)
              | (refine kappend KR okR rfl (.tmp 36) (.tmp 39) rfl wr.heap.size _ [] (L.drop c) rfl (KOwns.built wr _ (Nat.le_refl _)) _ rfl HLd.out (by simp) (by simp; omega) (fun v2 w2 ho hg => ?_); refine Hid.out ?_))
            have hb2 := kbelowOwn (below1 wr (.cells #[] KR.T)) (KOwns.built (K := KR) wr wr.heap.size (Nat.le_refl _)) (Nat.le_refl _) hg
            obtain ⟨Rst, hRst⟩ : ∃ Rst, Rst = L.drop c := ⟨_, rfl⟩
            have hr2 : KLies KR v2 Rst w2 := by rw [hRst]; exact ho.lies okR
            have HS2 := Lib.hid (show RtS w (.slice (some ⟨b, o, none⟩) l.length cap) l (.slice po L.length co) L v2 Rst w2 from ⟨RsS.below hb2 HS.out, hr2⟩)
            obtain ⟨pr, nR, cr, rfl, hnR⟩ : ∃ pr nR cr, v2 = .slice pr nR cr ∧ nR = Rst.length := by
              obtain ⟨p', c', e'⟩ := hr2.form
              exact ⟨p', _, c', e', rfl⟩
            have HnR := Lib.hid hnR
            clear ho hg hb2 hr2 HLd HS
            have hR0 : nR = 0 := by rw [hnR, hRst, List.length_drop]; omega
            subst hR0
            clear hnR
            refine Lib.hid ?_
            go_upto_region 10 with fail
            refine wp_region_held_drew (S := RtS w (.slice (some ⟨b, o, none⟩) l.length cap) l (.slice po L.length co) L (.slice pr 0 cr) Rst) (by kernel_rfl) (RtS.below (Below.refl _ _).drew HS2.out) (fun hS => ?_)
            clear HS2
            generalize w2.drew = W at *
            refine seqRead 0 (v := _) rfl (by kernel_rfl) (by kernel_rfl) (by kernel_rfl) (fun _ _ _ h => h) rfl (fun w hSw => by go_simp <;> with_reducible rfl) hS ?_
            try simp only [Act.put, List.setIfInBounds_toArray, List.set_cons_zero, List.set_cons_succ]
            refine seqRead 1 (v := _) rfl (by kernel_rfl) (by kernel_rfl) (by kernel_rfl) (fun _ _ _ h => h) rfl (fun w hSw => by go_simp <;> with_reducible rfl) hS ?_
            try simp only [Act.put, List.setIfInBounds_toArray, List.set_cons_zero, List.set_cons_succ]
            refine seqRead 2 (v := _) rfl (by kernel_rfl) (by kernel_rfl) (by kernel_rfl) (fun _ _ _ h => h) rfl (fun w hSw => by go_simp <;> with_reducible rfl) hS ?_
            try simp only [Act.put, List.setIfInBounds_toArray, List.set_cons_zero, List.set_cons_succ]
            refine seqRead 3 (v := _) rfl (by kernel_rfl) (by kernel_rfl) (by kernel_rfl) (fun _ _ _ h => h) rfl (fun w hSw => by go_simp <;> with_reducible rfl) hS ?_
            try simp only [Act.put, List.setIfInBounds_toArray, List.set_cons_zero, List.set_cons_succ]
            refine seqSkip 4 rfl (by kernel_rfl) (by kernel_rfl) (by kernel_rfl) (fun _ _ _ h => h) rfl hS ?_
            try simp only [Act.put, List.setIfInBounds_toArray, List.set_cons_zero, List.set_cons_succ]
            refine seqSkip 5 rfl (by kernel_rfl) (by kernel_rfl) (by kernel_rfl) (fun _ _ _ h => h) rfl hS ?_
            try simp only [Act.put, List.setIfInBounds_toArray, List.set_cons_zero, List.set_cons_succ]
            refine seqSkip 6 rfl (by kernel_rfl) (by kernel_rfl) (by kernel_rfl) (fun _ _ _ h => h) rfl hS ?_
            try simp only [Act.put, List.setIfInBounds_toArray, List.set_cons_zero, List.set_cons_succ]
            refine seqSkip 7 rfl (by kernel_rfl) (by kernel_rfl) (by kernel_rfl) (fun _ _ _ h => h) rfl hS ?_
            try simp only [Act.put, List.setIfInBounds_toArray, List.set_cons_zero, List.set_cons_succ]
            refine seqSkip 8 rfl (by kernel_rfl) (by kernel_rfl) (by kernel_rfl) (fun _ _ _ h => h) rfl hS ?_
            try simp only [Act.put, List.setIfInBounds_toArray, List.set_cons_zero, List.set_cons_succ]
            refine seqSkip 9 rfl (by kernel_rfl) (by kernel_rfl) (by kernel_rfl) (fun _ _ _ h => h) rfl hS ?_
            try simp only [Act.put, List.setIfInBounds_toArray, List.set_cons_zero, List.set_cons_succ]
            refine seqSkip 10 rfl (by kernel_rfl) (by kernel_rfl) (by kernel_rfl) (fun _ _ _ h => h) rfl hS ?_
            try simp only [Act.put, List.setIfInBounds_toArray, List.set_cons_zero, List.set_cons_succ]
            refine seqSkip 11 rfl (by kernel_rfl) (by kernel_rfl) (by kernel_rfl) (fun _ _ _ h => h) rfl hS ?_
            try simp only [Act.put, List.setIfInBounds_toArray, List.set_cons_zero, List.set_cons_succ]
            refine seqRead 12 (v := _) rfl (by kernel_rfl) (by kernel_rfl) (by kernel_rfl) (fun _ _ _ h => h) rfl (fun w hSw => by go_simp <;> with_reducible rfl) hS ?_
            try simp only [Act.put, List.setIfInBounds_toArray, List.set_cons_zero, List.set_cons_succ]
            refine seqDone (by kernel_rfl) ?_
            have HS3 := Lib.hid hS
            clear hS
            go_upto_region 12 with fail
            have HS4 := Lib.hid (show RtS w (.slice (some ⟨b, o, none⟩) l.length cap) l (.slice po L.length co) L (Value.slice pr 0 cr) Rst W from HS3.out)
            have HFN := Lib.hid (show tblM (l.take (r + 1)) = L.take c ++ x :: Rst by rw [tblM_snoc HX.out HSN.out, ← HLT.out, ins_new hcl HQ2.out HNEW.out, hRst])
            have hRl2 : Rst.length ≤ 100000 := by rw [hRst, List.length_drop]; omega
            clear HS3 hRst HnR
            generalize (Value.slice pr 0 cr) = rv at *
            generalize Rst = R at *
            refine wp_region_held_drew (S := RtS w (.slice (some ⟨b, o, none⟩) l.length cap) l (.slice po L.length co) L rv R) (by kernel_rfl) (RtS.below (Below.refl _ _).drew HS4.out) (fun hS => ?_)
            clear HS4
            generalize W.drew = W at *
            have HSW := Lib.hid hS
            have hWs : w.heap.size ≤ W.heap.size := hS.1.2.2.kept.size
            refine seqRead 1 (v := _) rfl (by kernel_rfl) (by kernel_rfl) (by kernel_rfl) (fun _ _ _ h => h) rfl (fun w hSw => by go_simp <;> with_reducible rfl) hS ?_
            try simp only [Act.put, List.setIfInBounds_toArray, List.set_cons_zero, List.set_cons_succ]
            refine seqRead 2 (v := _) rfl (by kernel_rfl) (by kernel_rfl) (by kernel_rfl) (fun _ _ _ h => h) rfl (fun w hSw => by go_simp <;> with_reducible rfl) hS ?_
            try simp only [Act.put, List.setIfInBounds_toArray, List.set_cons_zero, List.set_cons_succ]
            refine seqRead 3 (v := _) rfl (by kernel_rfl) (by kernel_rfl) (by kernel_rfl) (fun _ _ _ h => h) rfl (fun w hSw => execUpto rfl po L.length co c rfl rfl hcl hcap) hS ?_
            try simp only [Act.put, List.setIfInBounds_toArray, List.set_cons_zero, List.set_cons_succ]
            refine seqRead 5 (v := _) rfl (by kernel_rfl) (by kernel_rfl) (by kernel_rfl) (fun _ _ _ h => h) rfl (fun w hSw => by go_simp <;> with_reducible rfl) hS ?_
            try simp only [Act.put, List.setIfInBounds_toArray, List.set_cons_zero, List.set_cons_succ]
            refine seqRead 6 (v := _) rfl (by kernel_rfl) (by kernel_rfl) (by kernel_rfl) (fun _ _ _ h => h) rfl (fun w hSw => by go_simp <;> with_reducible rfl) hS ?_
            try simp only [Act.put, List.setIfInBounds_toArray, List.set_cons_zero, List.set_cons_succ]
            refine seqRead 7 (v := _) rfl (by kernel_rfl) (by kernel_rfl) (by kernel_rfl) (fun _ _ _ h => h) rfl (fun w hSw => by go_simp <;> with_reducible rfl) hS ?_
            try simp only [Act.put, List.setIfInBounds_toArray, List.set_cons_zero, List.set_cons_succ]
            refine seqRead 8 (v := _) rfl (by kernel_rfl) (by kernel_rfl) (by kernel_rfl) (fun _ _ _ h => h) rfl (fun w hSw => execRow rfl b (o + r * 32) rfl (rcl x) _ (hSw.1.1.1.at' HX.out) Tryz.underlying88 rfl infoR) hS ?_
            try simp only [Act.put, List.setIfInBounds_toArray, List.set_cons_zero, List.set_cons_succ]
            refine seqRead 11 (v := _) rfl (by kernel_rfl) (by kernel_rfl) (by kernel_rfl) (fun _ _ _ h => h) rfl (fun w hSw => by go_simp <;> with_reducible rfl) hS ?_
            try simp only [Act.put, List.setIfInBounds_toArray, List.set_cons_zero, List.set_cons_succ]
            refine seqActs2 0 9 rfl rfl (by kernel_rfl) rfl (fun K hK => ?_) rfl (fun K hK => ?_)
            · refine kbuildNoneWp KR okR rfl ?_
              have HO := Lib.hid (KOwns.built (K := KR) W W.heap.size (Nat.le_refl _))
              have HB0 := Lib.hid (below1 W (.cells #[] KR.T))
              refine hK.out _ _ (RtS.below (below1 _ _) hS) (fun hS => ?_)
              clear hK K
              try simp only [Act.put, List.setIfInBounds_toArray, List.set_cons_zero, List.set_cons_succ]
              refine seqActs2 4 9 rfl rfl (by kernel_rfl) rfl (fun K hK => ?_) rfl (fun K hK => ?_)
              · refine kappendWp KR okR (.tmp 56) (.tmp 59) rfl W.heap.size _ [] (L.take c) rfl HO.out _ rfl (hS.1.2.1.upto hcl) HB0.out.size (by simp; omega) (fun v5 w5 ho5 hg5 => ?_)
                have HB5 := Lib.hid (kbelowOwn HB0.out HO.out (Nat.le_refl _) hg5)
                have HO5 := Lib.hid ho5
                have S5 := RtS.below HB5.out HSW.out
                clear ho5 hg5 HO HB0
                refine hK.out _ _ S5 (fun hS => ?_)
                clear hK K S5
                try simp only [Act.put, List.setIfInBounds_toArray, List.set_cons_zero, List.set_cons_succ]
                refine seqCall 9 rfl (by kernel_rfl) rfl (fun K hK => ?_)
                refine kbuildOneWp KR okR #[Value.int IntKind.u64 0, Value.int IntKind.u64 0, Value.int IntKind.u64 0, Value.int IntKind.u64 0, Value.int IntKind.u64 0, Value.int IntKind.u64 0, Value.int IntKind.u64 0, Value.int IntKind.u64 0, Value.int IntKind.u64 0, Value.int IntKind.u64 0, Value.int IntKind.u64 0, Value.int IntKind.u64 0, Value.int IntKind.u64 0, Value.int IntKind.u64 0, Value.int IntKind.u64 0, Value.int IntKind.u64 0, Value.int IntKind.u64 0, Value.int IntKind.u64 0, Value.int IntKind.u64 0, Value.int IntKind.u64 0, Value.int IntKind.u64 0, Value.int IntKind.u64 0, Value.int IntKind.u64 0, Value.int IntKind.u64 0, Value.int IntKind.i64 0, Value.slice none 0 0, Value.int IntKind.i64 0, Value.int IntKind.i64 0, Value.int IntKind.i64 0, Value.int IntKind.i64 0, Value.int IntKind.i64 0, Value.int IntKind.i64 0] zeroR (.tmp 64) rfl (rca x) rfl (by decide) (fillOne x) ?_
                have RX := Lib.hid (Blk.new w5 (rca x) KR.T)
                have HO6 := Lib.hid (HO5.out.below (below1 w5 (.cells (rca x) KR.T)))
                have HB6 := Lib.hid (HB5.out.trans ((below1 w5 (.cells (rca x) KR.T)).mono HB5.out.size))
                clear HO5 HB5
                refine hK.out _ _ (RtS.below (below1 _ _) hS) (fun hS => ?_)
                clear hK K
                try simp only [Act.put, List.setIfInBounds_toArray, List.set_cons_zero, List.set_cons_succ]
                refine seqCall 10 rfl (by kernel_rfl) rfl (fun K hK => ?_)
                refine kappendWp KR okR (.tmp 60) (.tmp 65) rfl W.heap.size v5 ([] ++ L.take c) [x] rfl HO6.out _ rfl (Blk.klies (l := [x]) RX.out okR (by simp [Kd.flat, rca])) HB6.out.size (by simp; omega) (fun v7 w7 ho7 hg7 => ?_)
                have HB7 := Lib.hid (kbelowOwn HB6.out HO6.out (Nat.le_refl _) hg7)
                have HO7 := Lib.hid ho7
                have S7 := RtS.below HB7.out HSW.out
                clear ho7 hg7 HO6 HB6 RX
                refine hK.out _ _ S7 (fun hS => ?_)
                clear hK K S7
                try simp only [Act.put, List.setIfInBounds_toArray, List.set_cons_zero, List.set_cons_succ]
                refine seqCall 12 rfl (by kernel_rfl) rfl (fun K hK => ?_)
                refine kappendWp KR okR (.tmp 66) (.tmp 67) rfl W.heap.size v7 ([] ++ L.take c ++ [x]) R rfl HO7.out _ rfl hS.2 HB7.out.size (by simp; omega) (fun v8 w8 ho8 hg8 => ?_)
                have HB8 := Lib.hid (kbelowOwn HB7.out HO7.out (Nat.le_refl _) hg8)
                have HO8 := Lib.hid ho8
                have S8 := RtS.below HB8.out HSW.out
                clear ho8 hg8 HO7 HB7
                refine hK.out _ _ S8 (fun hS => ?_)
                clear hK K S8
                try simp only [Act.put, List.setIfInBounds_toArray, List.set_cons_zero, List.set_cons_succ]
                refine seqRead 13 (v := _) rfl (by kernel_rfl) (by kernel_rfl) (by kernel_rfl) (fun _ _ _ h => h) rfl (fun w hSw => by go_simp <;> with_reducible rfl) hS ?_
                try simp only [Act.put, List.setIfInBounds_toArray, List.set_cons_zero, List.set_cons_succ]
                refine seqDone (by kernel_rfl) ?_
                have HS8 := Lib.hid hS
                have HON := Lib.hid (show KOwns KR w.heap.size v8 (tblM (l.take (r + 1))) w8 by
                  have h : KOwns KR W.heap.size v8 (L.take c ++ x :: R) w8 := by simpa using HO8.out
                  rw [HFN.out]
                  exact h.mono hWs)
                clear hS HO8 HB8 HSW
                go_wp2_with fail
                go_roundg (l.length - (r + 1))
                case measure => omega
                case rel => exact ⟨r + 1, _, by omega, by go_num, rfl, HS8.out.1.1, HON.out, HS8.out.1.2.2⟩
              · refine kbuildOneWp KR okR #[Value.int IntKind.u64 0, Value.int IntKind.u64 0, Value.int IntKind.u64 0, Value.int IntKind.u64 0, Value.int IntKind.u64 0, Value.int IntKind.u64 0, Value.int IntKind.u64 0, Value.int IntKind.u64 0, Value.int IntKind.u64 0, Value.int IntKind.u64 0, Value.int IntKind.u64 0, Value.int IntKind.u64 0, Value.int IntKind.u64 0, Value.int IntKind.u64 0, Value.int IntKind.u64 0, Value.int IntKind.u64 0, Value.int IntKind.u64 0, Value.int IntKind.u64 0, Value.int IntKind.u64 0, Value.int IntKind.u64 0, Value.int IntKind.u64 0, Value.int IntKind.u64 0, Value.int IntKind.u64 0, Value.int IntKind.u64 0, Value.int IntKind.i64 0, Value.slice none 0 0, Value.int IntKind.i64 0, Value.int IntKind.i64 0, Value.int IntKind.i64 0, Value.int IntKind.i64 0, Value.int IntKind.i64 0, Value.int IntKind.i64 0] zeroR (.tmp 64) rfl (rca x) rfl (by decide) (fillOne x) ?_
                have RX1 := Lib.hid (Blk.new (W.alloc (.cells #[] KR.T)) (rca x) KR.T)
                have HO1 := Lib.hid (HO.out.below (below1 (W.alloc (.cells #[] KR.T)) (.cells (rca x) KR.T)))
                have HB1 := Lib.hid (HB0.out.trans ((below1 (W.alloc (.cells #[] KR.T)) (.cells (rca x) KR.T)).mono HB0.out.size))
                have hne : (W.alloc (.cells #[] KR.T)).heap.size ≠ W.heap.size := by have := (Blk.new W #[] KR.T).lt; omega
                clear HO HB0
                refine hK.out _ _ (RtS.below (below1 _ _) hS) (fun hS => ?_)
                clear hK K
                try simp only [Act.put, List.setIfInBounds_toArray, List.set_cons_zero, List.set_cons_succ]
                refine seqCall 4 rfl (by kernel_rfl) rfl (fun K hK => ?_)
                refine kappendWp KR okR (.tmp 56) (.tmp 59) rfl W.heap.size _ [] (L.take c) rfl HO1.out _ rfl (hS.1.2.1.upto hcl) HB1.out.size (by simp; omega) (fun v5 w5 ho5 hg5 => ?_)
                have HB5 := Lib.hid (kbelowOwn HB1.out HO1.out (Nat.le_refl _) hg5)
                have HO5 := Lib.hid ho5
                have RX5 := Lib.hid (show Blk _ (rca x) KR.T w5 from (hg5.block _ RX1.out.lt (fun e => hne (by injection e))).trans RX1.out)
                clear RX1 hne
                have S5 := RtS.below HB5.out HSW.out
                clear ho5 hg5 HO1 HB1
                refine hK.out _ _ S5 (fun hS => ?_)
                clear hK K S5
                try simp only [Act.put, List.setIfInBounds_toArray, List.set_cons_zero, List.set_cons_succ]
                refine seqCall 10 rfl (by kernel_rfl) rfl (fun K hK => ?_)
                refine kappendWp KR okR (.tmp 60) (.tmp 65) rfl W.heap.size v5 ([] ++ L.take c) [x] rfl HO5.out _ rfl (Blk.klies (l := [x]) RX5.out okR (by simp [Kd.flat, rca])) HB5.out.size (by simp; omega) (fun v7 w7 ho7 hg7 => ?_)
                have HB7 := Lib.hid (kbelowOwn HB5.out HO5.out (Nat.le_refl _) hg7)
                have HO7 := Lib.hid ho7
                have S7 := RtS.below HB7.out HSW.out
                clear ho7 hg7 HO5 HB5 RX5
                refine hK.out _ _ S7 (fun hS => ?_)
                clear hK K S7
                try simp only [Act.put, List.setIfInBounds_toArray, List.set_cons_zero, List.set_cons_succ]
                refine seqCall 12 rfl (by kernel_rfl) rfl (fun K hK => ?_)
                refine kappendWp KR okR (.tmp 66) (.tmp 67) rfl W.heap.size v7 ([] ++ L.take c ++ [x]) R rfl HO7.out _ rfl hS.2 HB7.out.size (by simp; omega) (fun v8 w8 ho8 hg8 => ?_)
                have HB8 := Lib.hid (kbelowOwn HB7.out HO7.out (Nat.le_refl _) hg8)
                have HO8 := Lib.hid ho8
                have S8 := RtS.below HB8.out HSW.out
                clear ho8 hg8 HO7 HB7
                refine hK.out _ _ S8 (fun hS => ?_)
                clear hK K S8
                try simp only [Act.put, List.setIfInBounds_toArray, List.set_cons_zero, List.set_cons_succ]
                refine seqRead 13 (v := _) rfl (by kernel_rfl) (by kernel_rfl) (by kernel_rfl) (fun _ _ _ h => h) rfl (fun w hSw => by go_simp <;> with_reducible rfl) hS ?_
                try simp only [Act.put, List.setIfInBounds_toArray, List.set_cons_zero, List.set_cons_succ]
                refine seqDone (by kernel_rfl) ?_
                have HS8 := Lib.hid hS
                have HON := Lib.hid (show KOwns KR w.heap.size v8 (tblM (l.take (r + 1))) w8 by
                  have h : KOwns KR W.heap.size v8 (L.take c ++ x :: R) w8 := by simpa using HO8.out
                  rw [HFN.out]
                  exact h.mono hWs)
                clear hS HO8 HB8 HSW
                go_wp2_with fail
                go_roundg (l.length - (r + 1))
                case measure => omega
                case rel => exact ⟨r + 1, _, by omega, by go_num, rfl, HS8.out.1.1, HON.out, HS8.out.1.2.2⟩
            · refine kbuildOneWp KR okR #[Value.int IntKind.u64 0, Value.int IntKind.u64 0, Value.int IntKind.u64 0, Value.int IntKind.u64 0, Value.int IntKind.u64 0, Value.int IntKind.u64 0, Value.int IntKind.u64 0, Value.int IntKind.u64 0, Value.int IntKind.u64 0, Value.int IntKind.u64 0, Value.int IntKind.u64 0, Value.int IntKind.u64 0, Value.int IntKind.u64 0, Value.int IntKind.u64 0, Value.int IntKind.u64 0, Value.int IntKind.u64 0, Value.int IntKind.u64 0, Value.int IntKind.u64 0, Value.int IntKind.u64 0, Value.int IntKind.u64 0, Value.int IntKind.u64 0, Value.int IntKind.u64 0, Value.int IntKind.u64 0, Value.int IntKind.u64 0, Value.int IntKind.i64 0, Value.slice none 0 0, Value.int IntKind.i64 0, Value.int IntKind.i64 0, Value.int IntKind.i64 0, Value.int IntKind.i64 0, Value.int IntKind.i64 0, Value.int IntKind.i64 0] zeroR (.tmp 64) rfl (rca x) rfl (by decide) (fillOne x) ?_
              have RX := Lib.hid (Blk.new W (rca x) KR.T)
              refine hK.out _ _ (RtS.below (below1 _ _) hS) (fun hS => ?_)
              clear hK K
              try simp only [Act.put, List.setIfInBounds_toArray, List.set_cons_zero, List.set_cons_succ]
              refine seqCall 0 rfl (by kernel_rfl) rfl (fun K hK => ?_)
              refine kbuildNoneWp KR okR rfl ?_
              have HO := Lib.hid (KOwns.built (K := KR) (W.alloc (.cells (rca x) KR.T)) W.heap.size (below1 W (.cells (rca x) KR.T)).size)
              have HB0 := Lib.hid ((below1 W (.cells (rca x) KR.T)).trans ((below1 (W.alloc (.cells (rca x) KR.T)) (.cells #[] KR.T)).mono (below1 W (.cells (rca x) KR.T)).size))
              have RX1 := Lib.hid (RX.out.old (.cells #[] KR.T))
              have hne : W.heap.size ≠ (W.alloc (.cells (rca x) KR.T)).heap.size := by have := RX.out.lt; omega
              clear RX
              refine hK.out _ _ (RtS.below (below1 _ _) hS) (fun hS => ?_)
              clear hK K
              try simp only [Act.put, List.setIfInBounds_toArray, List.set_cons_zero, List.set_cons_succ]
              refine seqCall 4 rfl (by kernel_rfl) rfl (fun K hK => ?_)
              refine kappendWp KR okR (.tmp 56) (.tmp 59) rfl W.heap.size _ [] (L.take c) rfl HO.out _ rfl (hS.1.2.1.upto hcl) HB0.out.size (by simp; omega) (fun v5 w5 ho5 hg5 => ?_)
              have HB5 := Lib.hid (kbelowOwn HB0.out HO.out (Nat.le_refl _) hg5)
              have HO5 := Lib.hid ho5
              have RX5 := Lib.hid (show Blk _ (rca x) KR.T w5 from (hg5.block _ RX1.out.lt (fun e => hne (by injection e))).trans RX1.out)
              clear RX1 hne
              have S5 := RtS.below HB5.out HSW.out
              clear ho5 hg5 HO HB0
              refine hK.out _ _ S5 (fun hS => ?_)
              clear hK K S5
              try simp only [Act.put, List.setIfInBounds_toArray, List.set_cons_zero, List.set_cons_succ]
              refine seqCall 10 rfl (by kernel_rfl) rfl (fun K hK => ?_)
              refine kappendWp KR okR (.tmp 60) (.tmp 65) rfl W.heap.size v5 ([] ++ L.take c) [x] rfl HO5.out _ rfl (Blk.klies (l := [x]) RX5.out okR (by simp [Kd.flat, rca])) HB5.out.size (by simp; omega) (fun v7 w7 ho7 hg7 => ?_)
              have HB7 := Lib.hid (kbelowOwn HB5.out HO5.out (Nat.le_refl _) hg7)
              have HO7 := Lib.hid ho7
              have S7 := RtS.below HB7.out HSW.out
              clear ho7 hg7 HO5 HB5 RX5
              refine hK.out _ _ S7 (fun hS => ?_)
              clear hK K S7
              try simp only [Act.put, List.setIfInBounds_toArray, List.set_cons_zero, List.set_cons_succ]
              refine seqCall 12 rfl (by kernel_rfl) rfl (fun K hK => ?_)
              refine kappendWp KR okR (.tmp 66) (.tmp 67) rfl W.heap.size v7 ([] ++ L.take c ++ [x]) R rfl HO7.out _ rfl hS.2 HB7.out.size (by simp; omega) (fun v8 w8 ho8 hg8 => ?_)
              have HB8 := Lib.hid (kbelowOwn HB7.out HO7.out (Nat.le_refl _) hg8)
              have HO8 := Lib.hid ho8
              have S8 := RtS.below HB8.out HSW.out
              clear ho8 hg8 HO7 HB7
              refine hK.out _ _ S8 (fun hS => ?_)
              clear hK K S8
              try simp only [Act.put, List.setIfInBounds_toArray, List.set_cons_zero, List.set_cons_succ]
              refine seqRead 13 (v := _) rfl (by kernel_rfl) (by kernel_rfl) (by kernel_rfl) (fun _ _ _ h => h) rfl (fun w hSw => by go_simp <;> with_reducible rfl) hS ?_
              try simp only [Act.put, List.setIfInBounds_toArray, List.set_cons_zero, List.set_cons_succ]
              refine seqDone (by kernel_rfl) ?_
              have HS8 := Lib.hid hS
              have HON := Lib.hid (show KOwns KR w.heap.size v8 (tblM (l.take (r + 1))) w8 by
                have h : KOwns KR W.heap.size v8 (L.take c ++ x :: R) w8 := by simpa using HO8.out
                rw [HFN.out]
                exact h.mono hWs)
              clear hS HO8 HB8 HSW
              go_wp2_with fail
              go_roundg (l.length - (r + 1))
              case measure => omega
              case rel => exact ⟨r + 1, _, by omega, by go_num, rfl, HS8.out.1.1, HON.out, HS8.out.1.2.2⟩
    · have hltI : ¬ (r : Int) < (l.length : Int) := by omega
      obtain rfl : r = l.length := by omega
      have HF := Lib.hid (show KOwns KR w.heap.size (.slice po L.length co) (tblM l) wr by
        have h := HOWN.out
        have e := HLT.out
        rw [List.take_length] at e
        rw [← e]; exact h)
      go_wp2_with fail
      go_ret
      exact ⟨_, rfl, HF.out, HS.out.2.2.kept⟩
end Go.Proofs.YtomnpfbebimpkaaGreatDoor
