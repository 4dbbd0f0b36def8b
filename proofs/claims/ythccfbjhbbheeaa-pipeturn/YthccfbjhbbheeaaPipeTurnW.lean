/-
  The walk of the law PipeTurn.
-/
import Derived.Test.YthccfbjhbbheeaaPipAns
namespace Go.Proofs.Ythccfbjhbbheeaa
set_option maxRecDepth 20000
open Go.RowKit Go.Conc

set_option maxRecDepth 100000 in
set_option maxHeartbeats 4000000 in
theorem pipeTurn_any (v : Value) (l : List Int) (_ : ∀ a ∈ l, True) (w : World) (hl : KLies KZ v l w) :
    Calls Try.prog 6 #[v] w fun e w' => e = .returned (.bool true) ∧ Below w.heap.size w w' := by
  obtain ⟨p, cp, rfl⟩ := hl.form
  have HL := Lib.hid hl
  clear hl
  obtain ⟨n, hn⟩ : ∃ n, n = l.length := ⟨_, rfl⟩
  rw [← hn] at HL ⊢
  have HN := Lib.hid hn
  clear hn
  by_cases hB : 200 < n
  · have hBI : (200 : Int) < (n : Int) := by omega
    have HA := Lib.hid (answers11 w)
    clear hB
    go_enter Try.func6, Try.ntmps6
    go_wp2_with (go_at_call 7; refine HA.out.mono ?_; rintro e W1 ⟨rfl, hb⟩)
    go_ret
    exact ⟨rfl, hb⟩
  have hBI : ¬ (200 : Int) < (n : Int) := by omega
  have HB := Lib.hid (Nat.le_of_not_lt hB)
  clear hB
  have HC0 := Lib.hid (newI_any 1 w)
  go_enter Try.func6, Try.ntmps6
  go_wp2_with (go_at_call 8; refine HC0.out.mono ?_; rintro e W0 ⟨b, c, rfl, hp, hb, _, hcc⟩; refine Hid.out ?_)
  have HP0 := Lib.hid (show PiI b c 1 [] W0 from hp)
  have HK0 := Lib.hid hb
  have HCC := Lib.hid hcc
  clear hp hb hcc HC0 hBI
  refine Lib.hid ?_
  go_wp2_with fail
  go_loopg [4] n (fun q s4 wr => ∃ r : Nat, r + q = n ∧ s4 = .int .i64 r ∧ PiI b c 1 [] wr ∧ Below w.heap.size w wr)
  case atStart => exact ⟨0, by omega, rfl, HP0.out, HK0.out⟩
  case round =>
    clear HP0 HK0
    obtain ⟨r, hr, rfl, hp, hb⟩ := hrel
    have HP := Lib.hid hp
    have HK := Lib.hid hb
    clear hp hb
    by_cases hlt : r < n
    · have hltI : (r : Int) < (n : Int) := by omega
      obtain ⟨x, hx⟩ := lt_some (l := l) (i := r) (by have := HN.out; omega)
      have HX := Lib.hid hx
      obtain ⟨bb, o, rfl, ka⟩ := cellZ (HL.out.below okZ HK.out) hx
      have HC1 := Lib.hid (PutI_room b c 1 [] x wr HP.out (by decide))
      clear hx
      go_wp2_with (go_at_call 10; refine HC1.out.mono ?_; rintro e W1 ⟨rfl, k, hp, hg⟩; refine Hid.out ?_)
      have HK1 := Lib.hid (below_chan HK.out hg HK.out.size HCC.out)
      have HC2 := Lib.hid (PutI_full b c 1 _ 7 W1 hp (by simp))
      clear hp hg HC1 HK HP ka
      refine Lib.hid ?_
      go_wp2_with (go_at_call 10; refine HC2.out.mono ?_; rintro e W2 ⟨rfl, hp, hg⟩; refine Hid.out ?_)
      have HK2 := Lib.hid (below_chan HK1.out hg HK1.out.size HCC.out)
      have HC3 := Lib.hid (LenI_any b c 1 _ W2 hp)
      have HC4 := Lib.hid (GetI_some b c 1 [] k x W2 hp)
      clear hp hg HC2 HK1
      refine Lib.hid ?_
      go_wp2_with (go_at_call 11; refine HC3.out.mono ?_; rintro e W3 ⟨rfl, rfl⟩; refine Hid.out ?_)
      clear HC3
      refine Lib.hid ?_
      go_wp2_with (go_at_call 9; refine HC4.out.mono ?_; rintro e W4 ⟨rfl, hp, hg⟩; refine Hid.out ?_)
      have HK4 := Lib.hid (below_chan HK2.out hg HK2.out.size HCC.out)
      have HP4 := Lib.hid hp
      obtain ⟨_, _, e, ka⟩ := cellZ (HL.out.below okZ HK4.out) HX.out
      injection e with e
      injection e with e1 e2
      subst e1 e2
      clear hp hg HC4 HK2
      have hr9 : r < 1000 := by have := HB.out; omega
      refine Lib.hid ?_
      go_wp2_with fail
      go_roundg (n - (r + 1))
      case measure => omega
      case rel => exact ⟨r + 1, by omega, by go_num, HP4.out, HK4.out⟩
    · have hltI : ¬ (r : Int) < (n : Int) := by omega
      have HA := Lib.hid (answers11 wr)
      go_wp2_with (go_at_call 7; refine HA.out.mono ?_; rintro e W1 ⟨rfl, hb⟩; refine Hid.out ?_)
      have HK1 := Lib.hid (HK.out.trans (hb.mono HK.out.size))
      have HC1 := Lib.hid (LenI_any b c 1 [] W1 (HP.out.below hb))
      clear hb HA HP HK
      refine Lib.hid ?_
      go_wp2_with (go_at_call 11; refine HC1.out.mono ?_; rintro e W2 ⟨rfl, rfl⟩)
      go_ret
      exact ⟨rfl, HK1.out⟩
end Go.Proofs.Ythccfbjhbbheeaa
