/-
  The walks of slices.IndexFunc and slices.ContainsFunc over actions; of Sound of package act; of slices.Equal, Same and the reference's SameActs.
-/
import Derived.Test.YtpcacgfhjheiiaaDoorActSnd
namespace Go.Proofs.YtpcacgfhjheiiaaDoor
open Go.RowKit

theorem infoA : (Tryd.prog.info? 38).map (·.size) = some 4 := by kernel_rfl
theorem infoS : (Tryd.prog.info? 32).map (·.size) = some 13 := by kernel_rfl
theorem lt_some {α : Type} {l : List α} {i : Nat} (h : i < l.length) : ∃ a, l[i]? = some a := ⟨_, List.getElem?_eq_getElem h⟩
set_option maxHeartbeats 1000000 in
theorem aindex_any (g : Nat) (cb : Array Value) (q : Ac → Bool) (eg : ∀ args w, (callFunc g args).run Tryd.prog w = .ok (.enter g args) w) (p : Option Addr) (cap : Nat) (l : List Ac) (hlen : l.length ≤ 140737488355328) (hw : WfAL l) (w : World)
    (hl : KLies KA (.slice p l.length cap) l w) (hp : KPred (fun a => .agg (aca a)) WfA g cb q w) :
    Calls Tryd.prog 23 #[.slice p l.length cap, .func (.func g) #[] cb] w fun e w' => e = .returned (.int .i64 (kidx q l)) ∧ Below w.heap.size w w' := by
  have HL := Lib.hid hl
  have HP := Lib.hid hp
  have HW := Lib.hid hw
  clear hl hp hw
  go_enter Tryd.func23, Tryd.ntmps23
  go_wp2
  go_loopg [8] l.length (fun k i wr => ∃ r : Nat, r + k = l.length ∧ i = .int .i64 r ∧ (∀ j b, j < r → l[j]? = some b → q b = false) ∧ Below w.heap.size w wr)
  case atStart => exact ⟨0, by omega, rfl, fun j _ h => absurd h (by omega), Below.refl _ _⟩
  case round =>
    obtain ⟨r, hr, rfl, hq, hb⟩ := hrel
    have HQ := Lib.hid hq
    have HB := Lib.hid hb
    clear hq hb
    by_cases hlt : r < l.length
    · have hltI : (r : Int) < (l.length : Int) := by omega
      obtain ⟨c, hc⟩ := lt_some hlt
      obtain ⟨b, o, rfl, hrg⟩ := (HL.out.below okA HB.out).at hc
      have HR := Lib.hid hrg
      have HI := Lib.hid hc
      have HC := Lib.hid (HP.out wr HB.out c (HW.out.at hc))
      clear hrg hc
      cases hq : q c
      · rw [hq] at HC
        have HH := Lib.hid hq
        clear hq
        go_wp2_with (first
          | (refine wpList_load_mid rfl 38 _ rfl b (o + r * 4) rfl (acl c) _ HR.out Tryd.underlying38 rfl infoA ?_)
          | (go_at_fn g; refine HC.out.mono ?_; rintro e w1 ⟨rfl, hw1⟩))
        have HB1 := Lib.hid (HB.out.trans (hw1.mono HB.out.size))
        clear hw1 HC HR
        go_roundg (l.length - (r + 1))
        case measure => omega
        case rel =>
          refine ⟨r + 1, by omega, by go_num, fun j b' hj hb' => ?_, HB1.out⟩
          by_cases e : j = r
          · subst e
            rw [HI.out] at hb'
            rw [← Option.some.inj hb']; exact HH.out
          · exact HQ.out j b' (by omega) hb'
      · rw [hq] at HC
        have HH := Lib.hid (kidx_hit HI.out hq HQ.out)
        clear hq
        go_wp2_with (first
          | (refine wpList_load_mid rfl 38 _ rfl b (o + r * 4) rfl (acl c) _ HR.out Tryd.underlying38 rfl infoA ?_)
          | (go_at_fn g; refine HC.out.mono ?_; rintro e w1 ⟨rfl, hw1⟩))
        have HB1 := Lib.hid (HB.out.trans (hw1.mono HB.out.size))
        clear hw1 HC HR
        go_ret
        exact ⟨retI HH.out.symm, HB1.out⟩
    · have hltI : ¬ (r : Int) < (l.length : Int) := by omega
      have HH := Lib.hid (kidx_none (q := q) (l := l) fun j b hj => HQ.out j b (by have := (List.getElem?_eq_some_iff.1 hj).1; omega) hj)
      go_wp2
      go_ret
      exact ⟨retI HH.out.symm, HB.out⟩
theorem acontains_any (g : Nat) (cb : Array Value) (q : Ac → Bool) (eg : ∀ args w, (callFunc g args).run Tryd.prog w = .ok (.enter g args) w) (v : Value) (l : List Ac) (hlen : l.length ≤ 140737488355328) (hw : WfAL l) (w : World)
    (hl : KLies KA v l w) (hp : KPred (fun a => .agg (aca a)) WfA g cb q w) :
    Calls Tryd.prog 16 #[v, .func (.func g) #[] cb] w fun e w' => e = .returned (.bool (l.any q)) ∧ Below w.heap.size w w' := by
  obtain ⟨p, cap, rfl⟩ := hl.form
  have HI := Lib.hid (aindex_any g cb q eg p cap l hlen hw w hl hp)
  have HA := Lib.hid (kidx_any q l)
  clear hl hp hw
  generalize kidx q l = i at *
  go_enter Tryd.func16, Tryd.ntmps16
  go_wp2_with (go_at_call 23; refine HI.out.mono ?_; rintro e w1 ⟨rfl, hw1⟩)
  go_ret
  exact ⟨ret_bool HA.out, hw1⟩
set_option maxHeartbeats 400000 in
theorem asound_any (v : Value) (l : List Ac) (hlen : l.length ≤ 140737488355328) (hw : WfAL l) (w : World) (hl : KLies KA v l w) (ht : Tab w) (hz : 0 < w.heap.size) :
    Calls Tryd.prog 10 #[v] w fun e w' => e = .returned (.bool (sndAL l)) ∧ Below w.heap.size w w' := by
  have HC := Lib.hid (acontains_any 17 #[] (fun c => !sndA c) enAUnsound v l hlen hw w hl (pred_aunsound ht hz))
  have HA : (!l.any fun c => !sndA c) = l.all sndA := by rw [List.not_any_eq_all_not]; simp
  obtain ⟨p, cap, rfl⟩ := hl.form
  clear hl hw ht
  unfold sndAL
  by_cases h : l.length ≤ 8
  · have hI : (l.length : Int) ≤ 8 := by omega
    have hd : decide (l.length ≤ 8) = true := decide_eq_true h
    have hA := Lib.hid HA
    clear HA
    go_enter Tryd.func10, Tryd.ntmps10
    go_wp2_with (go_at_call 16; refine HC.out.mono ?_; rintro e w1 ⟨rfl, hw1⟩)
    go_ret
    exact ⟨ret_bool (by rw [hd, ← hA.out]; simp), hw1⟩
  · have hI : ¬ (l.length : Int) ≤ 8 := by omega
    have hd : decide (l.length ≤ 8) = false := decide_eq_false h
    clear HC
    go_enter Tryd.func10, Tryd.ntmps10
    go_wp2
    go_ret
    exact ⟨ret_bool (by first | rfl | simp [hd]), Below.refl _ _⟩
/-- are two lists of actions the same? -/
def aEqL : List Ac → List Ac → Bool
  | [], [] => true
  | a :: l, b :: k => aEq a b && aEqL l k
  | _, _ => false
theorem aEqL_iff : ∀ l k : List Ac, aEqL l k = true ↔ l = k
  | [], [] => by simp [aEqL]
  | [], _ :: _ => by simp [aEqL]
  | _ :: _, [] => by simp [aEqL]
  | a :: l, b :: k => by simp [aEqL, aEq_iff, aEqL_iff l k]
theorem aEqL_len {l k : List Ac} (h : l.length ≠ k.length) : aEqL l k = false := by
  rw [Bool.eq_false_iff]
  intro e
  exact h (congrArg _ ((aEqL_iff l k).1 e))
theorem aEqL_ne {l k : List Ac} {i : Nat} {a b : Ac} (ha : l[i]? = some a) (hb : k[i]? = some b) (h : aEq a b = false) : aEqL l k = false := by
  rw [Bool.eq_false_iff]
  intro e
  rw [(aEqL_iff l k).1 e, hb] at ha
  have := (aEq_iff a b).2 (Option.some.inj ha).symm
  rw [this] at h
  cases h
theorem aEqL_yes {l k : List Ac} (hl : l.length = k.length) (h : ∀ (j : Nat) a b, l[j]? = some a → k[j]? = some b → aEq a b = true) : aEqL l k = true := by
  rw [aEqL_iff]
  apply List.ext_getElem hl
  intro i h1 h2
  exact (aEq_iff _ _).1 (h i _ _ (List.getElem?_eq_getElem h1) (List.getElem?_eq_getElem h2))
end Go.Proofs.YtpcacgfhjheiiaaDoor
