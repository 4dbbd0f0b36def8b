/-
  Changes: Sound of package mods; slices.IndexFunc and slices.ContainsFunc over rules.
-/
import Derived.Test.YtghfohglnbenaaaDoorModVal
namespace Go.Proofs.YtghfohglnbenaaaDoor
set_option maxRecDepth 20000
open Go.RowKit

set_option maxHeartbeats 1000000 in
theorem msound_any (m : Mm) (hw : WfM m.u) (w : World) (ha : InM m w) (ht : Tab w) (hz : 0 < w.heap.size) :
    Calls Tryd.prog 16 #[.agg (mca m)] w fun e w' => e = .returned (.bool (sndM m.u)) ∧ Below w.heap.size w w' := by
  have R0 := Lib.hid (Blk.new w (mca m) 30)
  have HE := Lib.hid ((Env.start ht hz).alloc (.cells (mca m) 30))
  have HF := Lib.hid (mfits_any m ha.len (w.alloc (.cells (mca m) 30)))
  have HS := Lib.hid (fun (W : World) (hb : Env w W) => rsound_any (newR m) hw.new W ((ha.below hb.kept).new) hb.tab hb.lt)
  rw [sndM_split]
  clear ht ha hw
  cases hf : fitK m.u
  · rw [hf] at HF
    rw [Bool.false_and]
    go_enter Tryd.func16, Tryd.ntmps16
    go_wp2_with (first
      | (refine wpList_load_row rfl 30 _ rfl w.heap.size rfl 30 (mca m) (0, 0) _ R0.out Tryd.underlying30 rfl infoM ?_)
      | (go_at_call 35; refine HF.out.mono ?_; rintro e w1 ⟨rfl, hw1⟩))
    go_ret
    exact ⟨rfl, (HE.out.below hw1).kept⟩
  · rw [hf] at HF
    rw [Bool.true_and]
    go_enter Tryd.func16, Tryd.ntmps16
    go_wp2_with (first
      | (refine wpList_load_row rfl 30 _ rfl w.heap.size rfl 30 (mca m) (0, 0) _ R0.out Tryd.underlying30 rfl infoM ?_)
      | (go_at_call 35; refine HF.out.mono ?_; rintro e w1 ⟨rfl, hw1⟩; refine Hid.out ?_))
    have R1 := Lib.hid (R0.out.below hw1)
    have HE1 := Lib.hid (HE.out.below hw1)
    clear hw1 HF R0 HE
    have HN := Lib.hid (ruleof_any m w1)
    refine Lib.hid ?_
    go_wp2_with (first
      | (refine loadRowG rfl 30 _ rfl w.heap.size rfl 30 (mca m) (0, 0) R1.out Tryd.underlying30 rfl infoM ?_)
      | (go_at_call 37; refine HN.out.mono ?_; rintro e w2 ⟨rfl, hw2⟩; refine Hid.out ?_))
    have HE2 := Lib.hid (HE1.out.below hw2)
    have HS2 := Lib.hid (HS.out w2 HE2.out)
    clear hw2 R1 HE1 HS HN
    refine Lib.hid ?_
    go_wp2_with (go_at_call 36; refine HS2.out.mono ?_; rintro e w3 ⟨rfl, hw3⟩)
    go_ret
    exact ⟨rfl, (HE2.out.below hw3).kept⟩
/-- what a condition is asked of -/
def agR (r : Rm) : Value := .agg (rca r)
def wfr (r : Rm) : Prop := WfR r.u
set_option maxHeartbeats 1000000 in
theorem rindex_any (g : Nat) (cb : Array Value) (q : Rm → Bool) (eg : ∀ args w, (callFunc g args).run Tryd.prog w = .ok (.enter g args) w) (p : Option Addr) (cap : Nat) (l : List Rm) (hlen : l.length ≤ 140737488355328) (hw : WfRL l) (w : World)
    (hl : KLies KR (.slice p l.length cap) l w) (hp : KPred agR wfr g cb q w) :
    Calls Tryd.prog 49 #[.slice p l.length cap, .func (.func g) #[] cb] w fun e w' => e = .returned (.int .i64 (kidx q l)) ∧ Below w.heap.size w w' := by
  have HL := Lib.hid hl
  have HP := Lib.hid hp
  have HW := Lib.hid hw
  clear hl hp hw
  go_enter Tryd.func49, Tryd.ntmps49
  go_wp2
  go_loopg [8] l.length (fun k i wr => ∃ r : Nat, r + k = l.length ∧ i = .int .i64 r ∧ (∀ j b, j < r → l[j]? = some b → q b = false) ∧ Below w.heap.size w wr)
  case atStart => exact ⟨0, by omega, rfl, fun j _ h => absurd h (by omega), Below.refl _ _⟩
  case round =>
    obtain ⟨r, hr, rfl, hq, hb⟩ := hrel
    have HQ := Lib.hid hq
    have HB := Lib.hid hb
    clear hq hb
    by_cases hlt : r < l.length
    · have hltI : (r : Int) < (l.length : Int) := by omega
      obtain ⟨c, hc⟩ := lt_some hlt
      obtain ⟨b, o, rfl, hrg⟩ := (HL.out.below okR HB.out).at hc
      have HR := Lib.hid hrg
      have HI := Lib.hid hc
      have HC := Lib.hid (show Calls Tryd.prog g (#[.agg (rca c)] ++ cb) wr _ from HP.out wr HB.out c (HW.out.at hc))
      clear hrg hc
      cases hq : q c
      · rw [hq] at HC
        have HH := Lib.hid hq
        clear hq
        go_wp2_with (first
          | (refine wpList_load_mid rfl 44 _ rfl b (o + r * 32) rfl (rcl c) _ HR.out Tryd.underlying44 rfl infoR ?_)
          | (go_at_fn g; refine HC.out.mono ?_; rintro e w1 ⟨rfl, hw1⟩))
        have HB1 := Lib.hid (HB.out.trans (hw1.mono HB.out.size))
        clear hw1 HC HR
        go_roundg (l.length - (r + 1))
        case measure => omega
        case rel =>
          refine ⟨r + 1, by omega, by go_num, fun j b' hj hb' => ?_, HB1.out⟩
          by_cases e : j = r
          · subst e
            rw [HI.out] at hb'
            rw [← Option.some.inj hb']; exact HH.out
          · exact HQ.out j b' (by omega) hb'
      · rw [hq] at HC
        have HH := Lib.hid (kidx_hit HI.out hq HQ.out)
        clear hq
        go_wp2_with (first
          | (refine wpList_load_mid rfl 44 _ rfl b (o + r * 32) rfl (rcl c) _ HR.out Tryd.underlying44 rfl infoR ?_)
          | (go_at_fn g; refine HC.out.mono ?_; rintro e w1 ⟨rfl, hw1⟩))
        have HB1 := Lib.hid (HB.out.trans (hw1.mono HB.out.size))
        clear hw1 HC HR
        go_ret
        exact ⟨retI HH.out.symm, HB1.out⟩
    · have hltI : ¬ (r : Int) < (l.length : Int) := by omega
      have HH := Lib.hid (kidx_none (q := q) (l := l) fun j b hj => HQ.out j b (by have := (List.getElem?_eq_some_iff.1 hj).1; omega) hj)
      go_wp2
      go_ret
      exact ⟨retI HH.out.symm, HB.out⟩
theorem rcontains_any (g : Nat) (cb : Array Value) (q : Rm → Bool) (eg : ∀ args w, (callFunc g args).run Tryd.prog w = .ok (.enter g args) w) (v : Value) (l : List Rm) (hlen : l.length ≤ 140737488355328) (hw : WfRL l) (w : World)
    (hl : KLies KR v l w) (hp : KPred agR wfr g cb q w) :
    Calls Tryd.prog 52 #[v, .func (.func g) #[] cb] w fun e w' => e = .returned (.bool (l.any q)) ∧ Below w.heap.size w w' := by
  obtain ⟨p, cap, rfl⟩ := hl.form
  have HI := Lib.hid (rindex_any g cb q eg p cap l hlen hw w hl hp)
  have HA := Lib.hid (kidx_any q l)
  clear hl hp hw
  generalize kidx q l = y at *
  go_enter Tryd.func52, Tryd.ntmps52
  go_wp2_with (go_at_call 49; refine HI.out.mono ?_; rintro e w1 ⟨rfl, hw1⟩)
  go_ret
  exact ⟨ret_bool HA.out, hw1⟩
end Go.Proofs.YtghfohglnbenaaaDoor
