/-
  The walk of the law PipeTexts.
-/
import Derived.Test.YthccfbjhbbheeaaPipAns
namespace Go.Proofs.Ythccfbjhbbheeaa
set_option maxRecDepth 20000
open Go.RowKit Go.Conc

theorem map_take_next {l : List ByteArray} {es : List (Nat × ByteArray)} {r k : Nat} {x : ByteArray} (h : es.map Prod.snd = l.take r) (hx : l[r]? = some x) : (es ++ [(k, x)]).map Prod.snd = l.take (r + 1) := by
  rw [List.map_append, h, List.take_add_one, hx]
  rfl
theorem map_drop_head {l : List ByteArray} {es : List (Nat × ByteArray)} {r : Nat} {x : ByteArray} (h : es.map Prod.snd = l.drop r) (hx : l[r]? = some x) : ∃ k es', es = (k, x) :: es' ∧ es'.map Prod.snd = l.drop (r + 1) := by
  obtain ⟨hr, e⟩ := List.getElem?_eq_some_iff.1 hx
  rw [List.drop_eq_getElem_cons hr, e] at h
  match es, h with
  | (k, y) :: es', h =>
    simp only [List.map_cons, List.cons.injEq] at h
    exact ⟨k, es', by rw [h.1], h.2⟩

set_option maxRecDepth 100000 in
set_option maxHeartbeats 4000000 in
theorem pipeTexts_any (v : Value) (l : List ByteArray) (_ : ∀ a ∈ l, True) (w : World) (hl : KLies KT v l w) :
    Calls Try.prog 4 #[v] w fun e w' => e = .returned (.bool true) ∧ Below w.heap.size w w' := by
  obtain ⟨p, cp, rfl⟩ := hl.form
  have HL := Lib.hid hl
  clear hl
  obtain ⟨n, hn⟩ : ∃ n, n = l.length := ⟨_, rfl⟩
  rw [← hn] at HL ⊢
  have HN := Lib.hid hn
  clear hn
  by_cases hB : 100 < n
  · have hBI : (100 : Int) < (n : Int) := by omega
    have HA := Lib.hid (answers11 w)
    clear hB
    go_enter Try.func4, Try.ntmps4
    go_wp2_with (go_at_call 7; refine HA.out.mono ?_; rintro e W1 ⟨rfl, hb⟩)
    go_ret
    exact ⟨rfl, hb⟩
  have hBI : ¬ (100 : Int) < (n : Int) := by omega
  have HB := Lib.hid (Nat.le_of_not_lt hB)
  clear hB
  have HC0 := Lib.hid (newS_any 100 w)
  go_enter Try.func4, Try.ntmps4
  go_wp2_with (go_at_call 14; refine HC0.out.mono ?_; rintro e W0 ⟨b, c, rfl, hp, hb, _, hcc⟩; refine Hid.out ?_)
  have HP0 := Lib.hid (show PiS b c 100 [] W0 from hp)
  have HK0 := Lib.hid hb
  have HCC := Lib.hid hcc
  clear hp hb hcc HC0 hBI
  refine Lib.hid ?_
  go_wp2_with fail
  go_loopg [4] n (fun q s4 wr => ∃ r : Nat, r + q = n ∧ s4 = .int .i64 r ∧ ∃ es, PiS b c 100 es wr ∧ es.map Prod.snd = l.take r ∧ Below w.heap.size w wr)
  case atStart => exact ⟨0, by omega, rfl, [], HP0.out, rfl, HK0.out⟩
  case round =>
    clear HP0 HK0
    obtain ⟨r, hr, rfl, es, hp, hm, hb⟩ := hrel
    have HP := Lib.hid hp
    have HK := Lib.hid hb
    have HM := Lib.hid hm
    have HML := Lib.hid (show es.length ≤ r by
      have := congrArg List.length hm
      rw [List.length_map, List.length_take] at this
      omega)
    clear hp hb hm
    by_cases hlt : r < n
    · have hltI : (r : Int) < (n : Int) := by omega
      obtain ⟨x, hx⟩ := lt_some (l := l) (i := r) (by have := HN.out; omega)
      obtain ⟨bb, o, rfl, ka⟩ := cellT (HL.out.below okT HK.out) hx
      have HC1 := Lib.hid (PutS_room b c 100 es x wr HP.out (by have := HML.out; have := HB.out; omega))
      have HX := Lib.hid hx
      clear hx
      go_wp2_with (go_at_call 15; refine HC1.out.mono ?_; rintro e W1 ⟨rfl, k, hp, hg⟩; refine Hid.out ?_)
      have HK1 := Lib.hid (below_chan HK.out hg HK.out.size HCC.out)
      have HP1 := Lib.hid hp
      have HM1 := Lib.hid (map_take_next (k := k) HM.out HX.out)
      clear hp hg HC1 HK HP ka HM
      have hr9 : r < 1000 := by have := HB.out; omega
      refine Lib.hid ?_
      go_wp2_with fail
      go_roundg (n - (r + 1))
      case measure => omega
      case rel => exact ⟨r + 1, by omega, by go_num, _, HP1.out, HM1.out, HK1.out⟩
    · have hltI : ¬ (r : Int) < (n : Int) := by omega
      obtain rfl : r = n := by omega
      have e0 : l.take r = l := List.take_of_length_le (by rw [HN.out]; exact Nat.le_refl _)
      rw [e0] at HM
      clear e0 hlt hr
      have HES := Lib.hid (show es.length = r by rw [HN.out, ← HM.out, List.length_map])
      have HC1 := Lib.hid (AllS_any b c 100 es (by have := HB.out; have := HML.out; omega) wr HP.out)
      rw [HM.out] at HC1
      go_wp2_with (go_at_call 16; refine HC1.out.mono ?_; rintro e W1 ⟨v1, rfl, ho, hp, hg⟩; refine Hid.out ?_)
      have hs := HK.out.size
      have HL1 := Lib.hid (ho.lies okT)
      obtain ⟨p1, cp1, rfl⟩ := ho.form
      rw [← HN.out] at HL1 ⊢
      have HK1 := Lib.hid (below_chan HK.out hg HK.out.size HCC.out)
      have HP1 := Lib.hid hp
      have HA := Lib.hid (answers11 W1)
      clear hs ho hp hg HC1 HK HP HML
      refine Lib.hid ?_
      go_wp2_with (go_at_call 7; refine HA.out.mono ?_; rintro e W2 ⟨rfl, hb⟩; refine Hid.out ?_)
      have HK2 := Lib.hid (HK1.out.trans (hb.mono HK1.out.size))
      have HP2 := Lib.hid (HP1.out.below hb)
      have HL2 := Lib.hid (HL1.out.below okT hb)
      have HM2 := Lib.hid (show es.map Prod.snd = l.drop 0 from HM.out)
      clear hb HA HK1 HP1 HL1 HM
      refine Lib.hid ?_
      go_wp2_with fail
      go_loopg [6] r (fun q s6 wr => ∃ t : Nat, t + q = r ∧ s6 = .int .i64 t ∧ ∃ es, PiS b c 100 es wr ∧ es.map Prod.snd = l.drop t ∧ KLies KT (.slice p1 r cp1) l wr ∧ Below w.heap.size w wr)
      case atStart => exact ⟨0, by omega, rfl, es, HP2.out, HM2.out, HL2.out, HK2.out⟩
      case round =>
        clear HP2 HM2 HL2 HK2 HES
        obtain ⟨t, ht, rfl, es2, hp, hm, hl, hb⟩ := hrel
        have HP := Lib.hid hp
        have HM := Lib.hid hm
        have HL1 := Lib.hid hl
        have HK := Lib.hid hb
        clear hp hm hl hb
        by_cases hlt2 : t < r
        · have hltI2 : (t : Int) < (r : Int) := by omega
          obtain ⟨x, hx⟩ := lt_some (l := l) (i := t) (by have := HN.out; omega)
          have HX := Lib.hid hx
          obtain ⟨k, es3, rfl, hm3⟩ := map_drop_head HM.out hx
          have HM3 := Lib.hid hm3
          have HC1 := Lib.hid (GetS_some b c 100 es3 k x wr HP.out)
          clear hx hm3
          go_wp2_with (go_at_call 17; refine HC1.out.mono ?_; rintro e W3 ⟨rfl, hp, hg⟩; refine Hid.out ?_)
          have HK3 := Lib.hid (below_chan HK.out hg HK.out.size HCC.out)
          have HL3 := Lib.hid (HL1.out.chanOther hg HP.out)
          have HP3 := Lib.hid hp
          obtain ⟨bb, o, rfl, ka⟩ := cellT (HL.out.below okT HK3.out) HX.out
          obtain ⟨b2, o2, rfl, kb⟩ := cellT HL3.out HX.out
          clear hp hg HC1 HK HP HM HL1
          have ht9 : t < 1000 := by have := HB.out; omega
          refine Lib.hid ?_
          go_wp2_with fail
          go_roundg (r - (t + 1))
          case measure => omega
          case rel => exact ⟨t + 1, by omega, by go_num, es3, HP3.out, HM3.out, HL3.out, HK3.out⟩
        · have hltI2 : ¬ (t : Int) < (r : Int) := by omega
          obtain rfl : t = r := by omega
          have e0 : l.drop t = [] := List.drop_of_length_le (by rw [HN.out]; exact Nat.le_refl _)
          have e1 : es2 = [] := by
            have := HM.out
            rw [e0] at this
            exact List.map_eq_nil_iff.1 this
          subst e1
          have HC1 := Lib.hid (GetS_none b c 100 wr HP.out)
          clear e0
          go_wp2_with (go_at_call 17; refine HC1.out.mono ?_; rintro e W3 ⟨rfl, rfl⟩; refine Hid.out ?_)
          have HC2 := Lib.hid (LenS_any b c 100 [] W3 HP.out)
          clear HC1
          refine Lib.hid ?_
          go_wp2_with (go_at_call 18; refine HC2.out.mono ?_; rintro e W4 ⟨rfl, rfl⟩)
          go_ret
          exact ⟨rfl, HK.out⟩
end Go.Proofs.Ythccfbjhbbheeaa
