/-
  The walk of the law PipePlays.
-/
import Derived.Test.YthccfbjhbbheeaaPipPlyM
namespace Go.Proofs.Ythccfbjhbbheeaa
set_option maxRecDepth 20000
open Go.RowKit Go.Conc

theorem roomOf_lo {m : Int} (h : m < 0) : (roomOf m : Int) = 0 := by rw [roomOf_int]; omega
theorem roomOf_hi {m : Int} (h : 4096 < m) : (roomOf m : Int) = 4096 := by rw [roomOf_int]; omega
theorem roomOf_mid {m : Int} (h1 : ¬ m < 0) (h2 : ¬ 4096 < m) : (roomOf m : Int) = m := by rw [roomOf_int]; omega
/-- what the walk carries -/
structure PlK (w0 : World) (b c cap : Nat) (es : List (Nat × Int)) (v : Value) (L : List Int) (W : World) : Prop where
  s : PlS w0.heap.size b c cap es v L W
  kept : Below w0.heap.size w0 W
  chan : w0.heap.size ≤ c
  same : es.map Prod.snd = L
theorem PlK.below {w0 W W' : World} {b c cap : Nat} {es : List (Nat × Int)} {v : Value} {L : List Int} (h : PlK w0 b c cap es v L W) (hb : Below W.heap.size W W') : PlK w0 b c cap es v L W' :=
  ⟨h.s.below hb, h.kept.trans (hb.mono h.kept.size), h.chan, h.same⟩
theorem PlK.calls {w0 W W' : World} {b c cap : Nat} {es : List (Nat × Int)} {v : Value} {L : List Int} (h : PlK w0 b c cap es v L W) (hp : PiI b c cap es W') (hg : W.grownBy W' (some c)) : PlK w0 b c cap es v L W' :=
  ⟨⟨hp, h.s.l.chanOther hg h.s.q, h.s.far⟩, below_chan h.kept hg h.kept.size h.chan, h.chan, h.same⟩
theorem PlK.len {w0 W : World} {b c cap : Nat} {es : List (Nat × Int)} {v : Value} {L : List Int} (h : PlK w0 b c cap es v L W) : es.length = L.length := by rw [← h.same, List.length_map]

set_option maxRecDepth 100000 in
set_option maxHeartbeats 8000000 in
theorem pipePlays_any (m : Int) (_ : I64 m) (v : Value) (l : List Int) (_ : ∀ a ∈ l, True) (w : World) (hl : KLies KZ v l w) :
    Calls Try.prog 3 #[.int .i64 m, v] w fun e w' => e = .returned (.bool true) ∧ Below w.heap.size w w' := by
  obtain ⟨p, cp, rfl⟩ := hl.form
  have HL := Lib.hid hl
  clear hl
  obtain ⟨n, hn⟩ : ∃ n, n = l.length := ⟨_, rfl⟩
  rw [← hn] at HL ⊢
  have HN := Lib.hid hn
  clear hn
  by_cases hB : 300 < n
  · have hBI : (300 : Int) < (n : Int) := by omega
    have HA := Lib.hid (answers11 w)
    clear hB
    go_enter Try.func3, Try.ntmps3
    go_wp2_with (go_at_call 7; refine HA.out.mono ?_; rintro e W1 ⟨rfl, hb⟩)
    go_ret
    exact ⟨rfl, hb⟩
  have hBI : ¬ (300 : Int) < (n : Int) := by omega
  have HB := Lib.hid (Nat.le_of_not_lt hB)
  clear hB
  have HC0 := Lib.hid (newI_any m w)
  go_enter Try.func3, Try.ntmps3
  go_wp2_with (go_at_call 8; refine HC0.out.mono ?_; rintro e W0 ⟨b, c, rfl, hp, hb, _, hcc⟩; refine Hid.out ?_)
  have HK0 := Lib.hid (show PlK w b c (roomOf m) [] (.slice none 0 0) [] W0 from ⟨⟨hp, KTail.nil _ _ _, fun e he => (by cases he)⟩, hb, hcc, rfl⟩)
  clear hp hb hcc HC0 hBI
  refine Lib.hid ?_
  go_upto_if 19 with fail
  go_cut [6] (fun s6 W => s6 = .int .i64 (max 0 m) ∧ W0 = W)
  case first =>
    by_cases h0 : m < 0
    · go_wp2_with fail
      go_meet
      case rel => exact ⟨by rw [Int.max_eq_left (by omega)], rfl⟩
    · go_wp2_with fail
      go_meet
      case rel => exact ⟨by rw [Int.max_eq_right (by omega)], rfl⟩
  case rest =>
  obtain ⟨rfl, rfl⟩ := hcut
  go_upto_if 21 with fail
  go_cut [6] (fun s6 W => s6 = .int .i64 (roomOf m) ∧ W0 = W)
  case first =>
    by_cases h0 : 4096 < max 0 m
    · go_wp2_with fail
      go_meet
      case rel => exact ⟨by rw [roomOf_hi (by omega)], rfl⟩
    · go_wp2_with fail
      go_meet
      case rel => exact ⟨by rw [roomOf_int, Int.min_eq_left (by omega)], rfl⟩
  case rest =>
  obtain ⟨rfl, rfl⟩ := hcut
  obtain ⟨R, hR⟩ : ∃ R, R = roomOf m := ⟨_, rfl⟩
  rw [← hR] at HK0 ⊢
  have HRR := Lib.hid (show R ≤ 4096 by rw [hR]; exact roomOf_le m)
  clear hR
  go_wp2_with fail
  go_loopg [8, 7] n (fun q s8 s7 wr => ∃ r : Nat, r + q = n ∧ s8 = .int .i64 r ∧ ∃ es L, L.length ≤ r ∧ PlK w b c R es s7 L wr)
  case atStart => exact ⟨0, by omega, rfl, [], [], Nat.le_refl _, HK0.out⟩
  case round =>
    clear HK0
    obtain ⟨r, hr, rfl, es, L, hq, hk⟩ := hrel
    have HK := Lib.hid hk
    have HQ := Lib.hid hq
    obtain ⟨p7, c7, e7⟩ := hk.s.l.form
    subst e7
    obtain ⟨q, hqq⟩ : ∃ q, q = L.length := ⟨_, rfl⟩
    rw [← hqq] at HK ⊢
    have HQQ := Lib.hid hqq
    clear hk hq hqq
    by_cases hlt : r < n
    · have hltI : (r : Int) < (n : Int) := by omega
      obtain ⟨x, hx⟩ := lt_some (l := l) (i := r) (by have := HN.out; omega)
      have HX := Lib.hid hx
      obtain ⟨bb, o, rfl, ka⟩ := cellZ (HL.out.below okZ HK.out.kept) hx
      clear hx
      have hr9 : r < 1000 := by have := HB.out; omega
      by_cases hx0 : x < 0
      · cases es with
        | nil =>
          have hL : L = [] := HK.out.same.symm
          subst hL
          have hq0 : q = 0 := HQQ.out
          subst hq0
          have HC1 := Lib.hid (GetI_none b c R wr HK.out.s.q)
          go_wp2_with (go_at_call 9; refine HC1.out.mono ?_; rintro e W1 ⟨rfl, rfl⟩; refine Hid.out ?_)
          clear HC1 ka
          refine Lib.hid ?_
          go_wp2_with fail
          go_roundg (n - (r + 1))
          case measure => omega
          case rel => exact ⟨r + 1, by omega, by go_num, [], [], Nat.zero_le _, HK.out⟩
        | cons e0 es =>
          obtain ⟨k, y⟩ := e0
          obtain ⟨L', rfl⟩ : ∃ L', L = y :: L' := ⟨es.map Prod.snd, HK.out.same.symm⟩
          have HS2 := Lib.hid (show es.map Prod.snd = L' by have := HK.out.same; simp only [List.map_cons, List.cons.injEq] at this; exact this.2)
          have hqI : (0 : Int) < (q : Int) := by have := HQQ.out; simp only [List.length_cons] at this; omega
          have HC1 := Lib.hid (GetI_some b c R es k y wr HK.out.s.q)
          go_wp2_with (go_at_call 9; refine HC1.out.mono ?_; rintro e W1 ⟨rfl, hp, hg⟩; refine Hid.out ?_)
          have HB1 := Lib.hid (below_chan HK.out.kept hg HK.out.kept.size HK.out.chan)
          have hs0 := HK.out.s
          rw [HQQ.out] at hs0
          have HS1 := Lib.hid (hs0.cut hp hg)
          have hl1 := (HK.out.s.l.chanOther hg HK.out.s.q).lies okZ
          obtain ⟨b7, o7, rfl, k7⟩ := cellZ hl1 (i := 0) (x := y) rfl
          rw [Nat.add_zero] at k7
          rw [← HQQ.out] at HS1
          have HCH := Lib.hid HK.out.chan
          have HQ1 := Lib.hid (show L'.length ≤ r + 1 by have := HQ.out; simp only [List.length_cons] at this; omega)
          have HQ2 := Lib.hid (show 1 ≤ q by omega)
          clear hp hg hs0 hl1 HC1 HK ka
          refine Lib.hid ?_
          go_wp2_with (refine wpFromZ rfl _ _ rfl (some ⟨b7, o7, none⟩) q c7 1 rfl rfl HQ2.out ?_)
          go_roundg (n - (r + 1))
          case measure => omega
          case rel => exact ⟨r + 1, by omega, by go_num, es, L', HQ1.out, HS1.out, HB1.out, HCH.out, HS2.out⟩
      · have hel := HK.out.len
        by_cases hf : es.length < R
        · have hqI : (q : Int) < (R : Int) := by have := HQQ.out; omega
          have HC1 := Lib.hid (PutI_at b c R es x wr HK.out.s.q hf)
          clear hf hel
          go_wp2_with (go_at_call 10; refine HC1.out.mono ?_; rintro e W1 ⟨rfl, hp, hg⟩; refine Hid.out ?_)
          have HB1 := Lib.hid (below_chan HK.out.kept hg HK.out.kept.size HK.out.chan)
          obtain ⟨_, _, e1, k1⟩ := cellZ (HL.out.below okZ HB1.out) HX.out
          injection e1 with e1
          injection e1 with e1 e2
          subst e1 e2
          have HS1 := Lib.hid (HK.out.s.new hp hg)
          have HM1 := Lib.hid (show (es ++ [(wr.heap.size, x)]).map Prod.snd = L ++ [x] by rw [List.map_append, HK.out.same]; rfl)
          have HCH := Lib.hid HK.out.chan
          have HB2 := Lib.hid (below1 W1 (.cells #[.int .i64 x] KZ.T))
          have HS2 := Lib.hid (HS1.out.below HB2.out)
          have HK2 := Lib.hid (HB1.out.trans (HB2.out.mono HB1.out.size))
          have HX2 := Lib.hid (Blk.klies (K := KZ) (l := [x]) (Blk.new W1 #[.int .i64 x] KZ.T) okZ rfl)
          have HLE := Lib.hid (show (L.length + [x].length) * KZ.room ≤ 140737488355328 by
            have := HQ.out
            show (L.length + 1) * 8 ≤ _
            omega)
          have HQ1 := Lib.hid (show (L ++ [x]).length ≤ r + 1 by rw [List.length_append]; have := HQ.out; simp; omega)
          generalize hes : es ++ [(wr.heap.size, x)] = es2 at *
          clear hes hp hg HC1 HK ka HS1 HB1
          refine Lib.hid ?_
          go_wp2_with (first
            | (refine kbuild KZ okZ 1 #[.int .i64 0] zeroZ rfl _ rfl [(0, .int .i64 x)] rfl #[.int .i64 x] (by decide) (by decide) (fillZ x) ?_)
            | (refine tappend KZ okZ rfl _ _ rfl w.heap.size (.slice p7 q c7) L [x] rfl HS2.out.l _ rfl HX2.out (by simp) HK2.out.size HLE.out (fun v3 w3 ht hg ho => ?_); refine Hid.out ?_))
          have HS3 := Lib.hid (HS2.out.app ht hg ho)
          have HK3 := Lib.hid (HK2.out.grown hg HK2.out.size (fun k e => (HS2.out.l.ge k e).1))
          clear ht hg ho HS2 HK2 HX2 HB2
          refine Lib.hid ?_
          go_wp2_with fail
          go_roundg (n - (r + 1))
          case measure => omega
          case rel => exact ⟨r + 1, by omega, by go_num, es2, L ++ [x], HQ1.out, HS3.out, HK3.out, HCH.out, HM1.out⟩
        · have hqI : ¬ (q : Int) < (R : Int) := by have := HQQ.out; omega
          have HC1 := Lib.hid (PutI_full b c R es x wr HK.out.s.q hf)
          clear hf hel
          go_wp2_with (go_at_call 10; refine HC1.out.mono ?_; rintro e W1 ⟨rfl, hp, hg⟩; refine Hid.out ?_)
          have HK1 := Lib.hid (HK.out.calls hp hg)
          clear hp hg HC1 HK ka
          refine Lib.hid ?_
          go_wp2_with fail
          go_roundg (n - (r + 1))
          case measure => omega
          case rel => exact ⟨r + 1, by omega, by go_num, es, L, Nat.le_succ_of_le HQ.out, HK1.out⟩
    · have hltI : ¬ (r : Int) < (n : Int) := by omega
      have HA := Lib.hid (answers11 wr)
      have HEL := Lib.hid (show es.length = q by rw [HK.out.len, HQQ.out])
      have HQB := Lib.hid (show es.length ≤ 1000000 by have := HEL.out; have := HQQ.out; have := HQ.out; have := HB.out; omega)
      go_wp2_with (go_at_call 7; refine HA.out.mono ?_; rintro e W1 ⟨rfl, hb⟩; refine Hid.out ?_)
      have HK1 := Lib.hid (HK.out.below hb)
      have HC1 := Lib.hid (LenI_any b c R es W1 HK1.out.s.q)
      rw [HEL.out] at HC1
      have HC2 := Lib.hid (AllI_any b c R es HQB.out W1 HK1.out.s.q)
      rw [HK1.out.same] at HC2
      clear hb HA HK
      refine Lib.hid ?_
      go_wp2_with (go_at_call 11; refine HC1.out.mono ?_; rintro e W2 ⟨rfl, rfl⟩; refine Hid.out ?_)
      clear HC1
      refine Lib.hid ?_
      go_wp2_with (go_at_call 13; refine HC2.out.mono ?_; rintro e W3 ⟨v3, rfl, ho, hp, hg⟩; refine Hid.out ?_)
      have HK3 := Lib.hid (HK1.out.calls hp hg)
      have HC3 := Lib.hid (rintsZ_same v3 (.slice p7 q c7) L (by have := HQB.out; have := HEL.out; have := HQQ.out; omega) W3 (ho.lies okZ) (HK3.out.s.l.lies okZ))
      clear ho hp hg HC2 HK1
      refine Lib.hid ?_
      go_wp2_with (go_at_call 12; refine HC3.out.mono ?_; rintro e W4 ⟨rfl, hb⟩; refine Hid.out ?_)
      have HK4 := Lib.hid (HK3.out.below hb)
      have HC4 := Lib.hid (AllI_any b c R es HQB.out W4 HK4.out.s.q)
      rw [HK4.out.same] at HC4
      clear hb HC3 HK3
      refine Lib.hid ?_
      go_wp2_with (go_at_call 13; refine HC4.out.mono ?_; rintro e W5 ⟨v5, rfl, ho, hp, hg⟩; refine Hid.out ?_)
      have HK5 := Lib.hid (HK4.out.calls hp hg)
      have HC5 := Lib.hid (rintsZ_same v5 (.slice p7 q c7) L (by have := HQB.out; have := HEL.out; have := HQQ.out; omega) W5 (ho.lies okZ) (HK5.out.s.l.lies okZ))
      clear ho hp hg HC4 HK4
      refine Lib.hid ?_
      go_wp2_with (go_at_call 12; refine HC5.out.mono ?_; rintro e W6 ⟨rfl, hb⟩; refine Hid.out ?_)
      have HK6 := Lib.hid (HK5.out.below hb)
      have HC6 := Lib.hid (LenI_any b c R es W6 HK6.out.s.q)
      rw [HEL.out] at HC6
      clear hb HC5 HK5
      refine Lib.hid ?_
      go_wp2_with (go_at_call 11; refine HC6.out.mono ?_; rintro e W7 ⟨rfl, rfl⟩)
      go_ret
      exact ⟨rfl, HK6.out.kept⟩
end Go.Proofs.Ythccfbjhbbheeaa
