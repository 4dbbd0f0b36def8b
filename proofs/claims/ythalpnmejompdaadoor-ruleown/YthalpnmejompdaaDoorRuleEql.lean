/-
  The walks of equal, slices.EqualFunc, Same of package rule; of the reference's Equal and Same.
-/
import Derived.Test.YthalpnmejompdaaDoorRulePr2
namespace Go.Proofs.YthalpnmejompdaaDoor
open Go.RowKit

set_option maxHeartbeats 1000000 in
set_option maxRecDepth 100000 in
theorem equalR_any (a b : Rm) (hb : b.u.acts.length ≤ 140737488355328) (w : World) (la : InA a w) (lb : InA b w) :
    Calls Tryd.prog 45 #[.agg (rca a), .agg (rca b)] w fun e w' => e = .returned (.bool (rEq a.u b.u)) ∧ Below w.heap.size w w' := by
  have RA := Lib.hid (two_a w a b)
  have RB := Lib.hid (two_b w a b)
  have HB := Lib.hid (two_below w a b)
  have HK := Lib.hid (key_any a b ((w.alloc (.cells (rca a) 29)).alloc (.cells (rca b) 29)))
  have HA := Lib.hid (fun (W : World) (h : Below w.heap.size w W) => asame_any (.slice a.q a.n a.c) (.slice b.q b.n b.c) a.u.acts b.u.acts hb W (la.below h) (lb.below h))
  obtain ⟨y, hy⟩ : ∃ y, y = rEq a.u b.u := ⟨_, rfl⟩
  rw [← hy]
  unfold rEq at hy
  have HY := Lib.hid hy
  clear la lb hy
  cases hk : keyB a.u b.u
  · rw [hk] at HK
    go_enter Tryd.func45, Tryd.ntmps45
    go_wp2_with (first
      | (refine wpList_load_row rfl 29 (.tmp 2) rfl w.heap.size rfl 29 (rca a) (0, 0) _ RA.out Tryd.underlying29 rfl infoR ?_)
      | (refine wpList_load_row rfl 29 (.tmp 3) rfl (w.heap.size + 1) rfl 29 (rca b) (0, 0) _ RB.out Tryd.underlying29 rfl infoR ?_)
      | (go_at_call 13; refine HK.out.mono ?_; rintro e w1 ⟨rfl, hw1⟩))
    go_ret
    exact ⟨ret_bool (by rw [HY.out, hk]; rfl), HB.out.trans (hw1.mono HB.out.size)⟩
  · rw [hk] at HK
    go_enter Tryd.func45, Tryd.ntmps45
    go_wp2_with (first
      | (refine wpList_load_row rfl 29 (.tmp 2) rfl w.heap.size rfl 29 (rca a) (0, 0) _ RA.out Tryd.underlying29 rfl infoR ?_)
      | (refine wpList_load_row rfl 29 (.tmp 3) rfl (w.heap.size + 1) rfl 29 (rca b) (0, 0) _ RB.out Tryd.underlying29 rfl infoR ?_)
      | (go_at_call 13; refine HK.out.mono ?_; rintro e w1 ⟨rfl, hw1⟩; refine Hid.out ?_))
    have RA1 := Lib.hid (RA.out.below hw1)
    have RB1 := Lib.hid (RB.out.below hw1)
    have HE1 := Lib.hid (HB.out.trans (hw1.mono HB.out.size))
    have HA1 := Lib.hid (HA.out w1 HE1.out)
    clear hw1 HK RA RB HB HA
    have ka := RA1.out.cellsR.2.2.1
    have kb := RB1.out.cellsR.2.2.1
    cases hs : aEqL a.u.acts b.u.acts
    · rw [hs] at HA1
      refine Lib.hid ?_
      go_wp2_with (go_at_call 63; refine HA1.out.mono ?_; rintro e w2 ⟨rfl, hw2⟩)
      go_ret
      exact ⟨ret_bool (by rw [HY.out, hk, hs]; rfl), HE1.out.trans (hw2.mono HE1.out.size)⟩
    · rw [hs] at HA1
      refine Lib.hid ?_
      go_wp2_with (go_at_call 63; refine HA1.out.mono ?_; rintro e w2 ⟨rfl, hw2⟩; refine Hid.out ?_)
      have RA2 := Lib.hid (RA1.out.below hw2)
      have RB2 := Lib.hid (RB1.out.below hw2)
      have HE2 := Lib.hid (HE1.out.trans (hw2.mono HE1.out.size))
      clear hw2 HA1 RA1 RB1 HE1 ka kb
      obtain ⟨_, _, _, a26, a27, a28, a29, a30, a31⟩ := RA2.out.cellsR
      obtain ⟨_, _, _, b26, b27, b28, b29, b30, b31⟩ := RB2.out.cellsR
      refine Lib.hid ?_
      cases eidle : a.u.idle == b.u.idle
      · go_wp2_with fail
        go_ret
        exact ⟨ret_bool (by rw [HY.out, hk, hs, eidle]; rfl), HE2.out⟩
      · skip
        cases ehard : a.u.hard == b.u.hard
        · go_wp2_with fail
          go_ret
          exact ⟨ret_bool (by rw [HY.out, hk, hs, eidle, ehard]; rfl), HE2.out⟩
        · skip
          cases eowner : a.u.owner == b.u.owner
          · go_wp2_with fail
            go_ret
            exact ⟨ret_bool (by rw [HY.out, hk, hs, eidle, ehard, eowner]; rfl), HE2.out⟩
          · skip
            cases ehits : a.u.hits == b.u.hits
            · go_wp2_with fail
              go_ret
              exact ⟨ret_bool (by rw [HY.out, hk, hs, eidle, ehard, eowner, ehits]; rfl), HE2.out⟩
            · skip
              cases equiet : a.u.quiet == b.u.quiet
              · go_wp2_with fail
                go_ret
                exact ⟨ret_bool (by rw [HY.out, hk, hs, eidle, ehard, eowner, ehits, equiet]; rfl), HE2.out⟩
              · skip
                cases eage : a.u.age == b.u.age
                · go_wp2_with fail
                  go_ret
                  exact ⟨ret_bool (by rw [HY.out, hk, hs, eidle, ehard, eowner, ehits, equiet, eage]; rfl), HE2.out⟩
                · skip
                  go_wp2_with fail
                  go_ret
                  exact ⟨ret_bool (by rw [HY.out, hk, hs, eidle, ehard, eowner, ehits, equiet, eage]; rfl), HE2.out⟩
set_option maxHeartbeats 1000000 in
set_option maxRecDepth 100000 in
theorem requalR_any (a b : Rm) (hb : b.u.acts.length ≤ 140737488355328) (w : World) (la : InA a w) (lb : InA b w) :
    Calls Tryd.prog 43 #[.agg (rca a), .agg (rca b)] w fun e w' => e = .returned (.bool (rEq a.u b.u)) ∧ Below w.heap.size w w' := by
  have RA := Lib.hid (two_a w a b)
  have RB := Lib.hid (two_b w a b)
  have HB := Lib.hid (two_below w a b)
  have HK := Lib.hid (rkey_any a b ((w.alloc (.cells (rca a) 29)).alloc (.cells (rca b) 29)))
  have HA := Lib.hid (fun (W : World) (h : Below w.heap.size w W) => rsameA_any (.slice a.q a.n a.c) (.slice b.q b.n b.c) a.u.acts b.u.acts hb W (la.below h) (lb.below h))
  obtain ⟨y, hy⟩ : ∃ y, y = rEq a.u b.u := ⟨_, rfl⟩
  rw [← hy]
  unfold rEq at hy
  have HY := Lib.hid hy
  clear la lb hy
  cases hk : keyB a.u b.u
  · rw [hk] at HK
    go_enter Tryd.func43, Tryd.ntmps43
    go_wp2_with (first
      | (refine wpList_load_row rfl 29 (.tmp 2) rfl w.heap.size rfl 29 (rca a) (0, 0) _ RA.out Tryd.underlying29 rfl infoR ?_)
      | (refine wpList_load_row rfl 29 (.tmp 3) rfl (w.heap.size + 1) rfl 29 (rca b) (0, 0) _ RB.out Tryd.underlying29 rfl infoR ?_)
      | (go_at_call 14; refine HK.out.mono ?_; rintro e w1 ⟨rfl, hw1⟩))
    go_ret
    exact ⟨ret_bool (by rw [HY.out, hk]; rfl), HB.out.trans (hw1.mono HB.out.size)⟩
  · rw [hk] at HK
    go_enter Tryd.func43, Tryd.ntmps43
    go_wp2_with (first
      | (refine wpList_load_row rfl 29 (.tmp 2) rfl w.heap.size rfl 29 (rca a) (0, 0) _ RA.out Tryd.underlying29 rfl infoR ?_)
      | (refine wpList_load_row rfl 29 (.tmp 3) rfl (w.heap.size + 1) rfl 29 (rca b) (0, 0) _ RB.out Tryd.underlying29 rfl infoR ?_)
      | (go_at_call 14; refine HK.out.mono ?_; rintro e w1 ⟨rfl, hw1⟩; refine Hid.out ?_))
    have RA1 := Lib.hid (RA.out.below hw1)
    have RB1 := Lib.hid (RB.out.below hw1)
    have HE1 := Lib.hid (HB.out.trans (hw1.mono HB.out.size))
    have HA1 := Lib.hid (HA.out w1 HE1.out)
    clear hw1 HK RA RB HB HA
    have ka := RA1.out.cellsR.2.2.1
    have kb := RB1.out.cellsR.2.2.1
    cases hs : aEqL a.u.acts b.u.acts
    · rw [hs] at HA1
      refine Lib.hid ?_
      go_wp2_with (go_at_call 62; refine HA1.out.mono ?_; rintro e w2 ⟨rfl, hw2⟩)
      go_ret
      exact ⟨ret_bool (by rw [HY.out, hk, hs]; rfl), HE1.out.trans (hw2.mono HE1.out.size)⟩
    · rw [hs] at HA1
      refine Lib.hid ?_
      go_wp2_with (go_at_call 62; refine HA1.out.mono ?_; rintro e w2 ⟨rfl, hw2⟩; refine Hid.out ?_)
      have RA2 := Lib.hid (RA1.out.below hw2)
      have RB2 := Lib.hid (RB1.out.below hw2)
      have HE2 := Lib.hid (HE1.out.trans (hw2.mono HE1.out.size))
      clear hw2 HA1 RA1 RB1 HE1 ka kb
      obtain ⟨_, _, _, a26, a27, a28, a29, a30, a31⟩ := RA2.out.cellsR
      obtain ⟨_, _, _, b26, b27, b28, b29, b30, b31⟩ := RB2.out.cellsR
      refine Lib.hid ?_
      cases eidle : a.u.idle == b.u.idle
      · go_wp2_with fail
        go_ret
        exact ⟨ret_bool (by rw [HY.out, hk, hs, eidle]; rfl), HE2.out⟩
      · skip
        cases ehard : a.u.hard == b.u.hard
        · go_wp2_with fail
          go_ret
          exact ⟨ret_bool (by rw [HY.out, hk, hs, eidle, ehard]; rfl), HE2.out⟩
        · skip
          cases eowner : a.u.owner == b.u.owner
          · go_wp2_with fail
            go_ret
            exact ⟨ret_bool (by rw [HY.out, hk, hs, eidle, ehard, eowner]; rfl), HE2.out⟩
          · skip
            cases ehits : a.u.hits == b.u.hits
            · go_wp2_with fail
              go_ret
              exact ⟨ret_bool (by rw [HY.out, hk, hs, eidle, ehard, eowner, ehits]; rfl), HE2.out⟩
            · skip
              cases equiet : a.u.quiet == b.u.quiet
              · go_wp2_with fail
                go_ret
                exact ⟨ret_bool (by rw [HY.out, hk, hs, eidle, ehard, eowner, ehits, equiet]; rfl), HE2.out⟩
              · skip
                cases eage : a.u.age == b.u.age
                · go_wp2_with fail
                  go_ret
                  exact ⟨ret_bool (by rw [HY.out, hk, hs, eidle, ehard, eowner, ehits, equiet, eage]; rfl), HE2.out⟩
                · skip
                  go_wp2_with fail
                  go_ret
                  exact ⟨ret_bool (by rw [HY.out, hk, hs, eidle, ehard, eowner, ehits, equiet, eage]; rfl), HE2.out⟩
/-- are two lists of rules the same? -/
def sameL : List Ru → List Ru → Bool
  | [], [] => true
  | a :: l, b :: k => rEq a b && sameL l k
  | _, _ => false
theorem sameL_len : ∀ {l k : List Ru}, l.length ≠ k.length → sameL l k = false
  | [], [], h => absurd rfl h
  | [], _ :: _, _ => rfl
  | _ :: _, [], _ => rfl
  | a :: l, b :: k, h => by rw [sameL, sameL_len (l := l) (k := k) (by simpa using h), Bool.and_false]
theorem sameL_ne : ∀ {l k : List Ru} {i : Nat} {a b : Ru}, l[i]? = some a → k[i]? = some b → rEq a b = false → sameL l k = false
  | [], _, i, a, b, h, _, _ => by simp at h
  | _ :: _, [], i, a, b, _, h, _ => by simp at h
  | c :: l, d :: k, 0, a, b, h1, h2, h => by
    simp only [List.getElem?_cons_zero, Option.some.injEq] at h1 h2
    subst h1 h2
    rw [sameL, h, Bool.false_and]
  | c :: l, d :: k, i + 1, a, b, h1, h2, h => by
    rw [sameL, sameL_ne (l := l) (k := k) (i := i) (by simpa using h1) (by simpa using h2) h, Bool.and_false]
theorem sameL_yes : ∀ {l k : List Ru}, l.length = k.length → (∀ (i : Nat) a b, l[i]? = some a → k[i]? = some b → rEq a b = true) → sameL l k = true
  | [], [], _, _ => rfl
  | [], _ :: _, h, _ => by simp at h
  | _ :: _, [], h, _ => by simp at h
  | a :: l, b :: k, h, hq => by
    rw [sameL, hq 0 a b rfl rfl, sameL_yes (l := l) (k := k) (by simpa using h) (fun i x y hx hy => hq (i + 1) x y (by simpa using hx) (by simpa using hy))]
    rfl
theorem sameL_self : ∀ l : List Ru, sameL l l = true
  | [] => rfl
  | a :: l => by rw [sameL, rEq_self, sameL_self l]; rfl
theorem sameL_symm : ∀ l k : List Ru, sameL l k = sameL k l
  | [], [] => rfl
  | [], _ :: _ => rfl
  | _ :: _, [] => rfl
  | a :: l, b :: k => by rw [sameL, sameL, rEq_symm a b, sameL_symm l k]
/-- two lists of rules lie in memory -/
def SmS (w0 : World) (v1 v2 : Value) (l k : List Rm) (W : World) : Prop := RLies v1 l W ∧ RLies v2 k W ∧ Below w0.heap.size w0 W
theorem SmS.below {w0 : World} {v1 v2 : Value} {l k : List Rm} {W W' : World} (hb : Below W.heap.size W W') (h : SmS w0 v1 v2 l k W) : SmS w0 v1 v2 l k W' := ⟨h.1.below hb, h.2.1.below hb, h.2.2.trans (hb.mono h.2.2.size)⟩
theorem map_get {l : List Rm} {j : Nat} {a : Ru} (h : (l.map (·.u))[j]? = some a) : ∃ x, l[j]? = some x ∧ x.u = a := by
  rw [List.getElem?_map, Option.map_eq_some_iff] at h
  exact h
theorem get_map {l : List Rm} {j : Nat} {x : Rm} (h : l[j]? = some x) : (l.map (·.u))[j]? = some x.u := by rw [List.getElem?_map, h]; rfl
theorem sameM_yes {l k : List Rm} (hl : l.length = k.length) (h : ∀ (j : Nat) x y, l[j]? = some x → k[j]? = some y → rEq x.u y.u = true) : sameL (l.map (·.u)) (k.map (·.u)) = true :=
  sameL_yes (by simpa using hl) fun i a b ha hb => by
    obtain ⟨x, hx, rfl⟩ := map_get ha
    obtain ⟨y, hy, rfl⟩ := map_get hb
    exact h i x y hx hy
theorem enEqualR : Enters Tryd.prog 45 := enters_of Tryd.func45 (by kernel_rfl) rfl
set_option maxRecDepth 100000 in
set_option maxHeartbeats 2000000 in
theorem equalF_any (v1 v2 : Value) (l k : List Rm) (hlen : l.length ≤ 1000000) (hk : WfRL k) (w0 : World) (h1 : RLies v1 l w0) (h2 : RLies v2 k w0) :
    Calls Tryd.prog 44 #[v1, v2, .func (.func 45) #[] #[]] w0 fun e w' => e = .returned (.bool (sameL (l.map (·.u)) (k.map (·.u)))) ∧ Below w0.heap.size w0 w' := by
  obtain ⟨p1, c1, rfl⟩ := h1.1.form
  obtain ⟨p2, c2, rfl⟩ := h2.1.form
  have HS := Lib.hid (show SmS w0 (.slice p1 l.length c1) (.slice p2 k.length c2) l k w0 from ⟨h1, h2, Below.refl _ _⟩)
  have HW := Lib.hid hk
  have eg := enEqualR
  clear h1 h2 hk
  by_cases hlk : l.length = k.length
  · have hd := eq_len hlk
    have HLK := Lib.hid hlk
    clear hlk
    go_enter Tryd.func44, Tryd.ntmps44
    go_wp2_with fail
    clear hd
    go_loopg [17] l.length (fun kk i wr => ∃ r : Nat, r + kk = l.length ∧ i = .int .i64 r ∧ (∀ (j : Nat) x y, j < r → l[j]? = some x → k[j]? = some y → rEq x.u y.u = true) ∧ SmS w0 (.slice p1 l.length c1) (.slice p2 k.length c2) l k wr)
    case atStart => exact ⟨0, by omega, rfl, fun j _ _ h => absurd h (by omega), HS.out⟩
    case round =>
      clear HS
      obtain ⟨r, hr, rfl, hq, hs⟩ := hrel
      have HQ := Lib.hid hq
      have HS := Lib.hid hs
      clear hq hs
      by_cases hlt : r < l.length
      · have hltI : (r : Int) < (l.length : Int) := by omega
        have hltK : (r : Int) < (k.length : Int) := by have := HLK.out; omega
        obtain ⟨x, hx⟩ := lt_some hlt
        obtain ⟨y, hy⟩ := lt_some (show r < k.length by have := HLK.out; omega)
        obtain ⟨b1, o1, rfl, hr1⟩ := HS.out.1.1.at hx
        obtain ⟨b2, o2, rfl, hr2⟩ := HS.out.2.1.1.at hy
        have HR1 := Lib.hid hr1
        have HR2 := Lib.hid (show (wr.alloc (.cells (rca x) 29)).rangeAt b2 (o2 + r * 32) (rcl y) from (HS.out.2.1.below (below1 wr (.cells (rca x) 29))).1.at' hy)
        have HX := Lib.hid (And.intro hx hy)
        clear hx hy hr1 hr2
        go_upto_region 6 with (first
          | (refine wpList_load_mid rfl 29 _ rfl b1 (o1 + r * 32) rfl (rcl x) _ HR1.out Tryd.underlying29 rfl infoR ?_)
          | (refine wpList_store_row rfl 29 _ _ rfl wr.heap.size (rca x) rfl rfl 29 _ (heap_alloc_new _ _) (by kernel_rfl) rfl (rca_one _) ?_; rw [World.setRow_alloc_new]))
        have RX := Lib.hid (Blk.new wr (rca x) 29)
        have HS1 := Lib.hid (SmS.below (below1 wr (.cells (rca x) 29)) HS.out)
        clear HR1 HS
        generalize wr.alloc (.cells (rca x) 29) = W at *
        go_upto_region 7 with (first
          | (refine wpList_load_mid rfl 29 _ rfl b2 (o2 + r * 32) rfl (rcl y) _ HR2.out Tryd.underlying29 rfl infoR ?_)
          | (refine wpList_store_row rfl 29 _ _ rfl W.heap.size (rca y) rfl rfl 29 _ (heap_alloc_new _ _) (by kernel_rfl) rfl (rca_one _) ?_; rw [World.setRow_alloc_new]))
        have RY := Lib.hid (Blk.new W (rca y) 29)
        have RX1 := Lib.hid (RX.out.old (.cells (rca y) 29))
        have HS2 := Lib.hid (SmS.below (below1 W (.cells (rca y) 29)) HS1.out)
        clear HR2 HS1 RX
        generalize W.alloc (.cells (rca y) 29) = W2 at *
        have HC := Lib.hid (equalR_any x y (HW.out.at HX.out.2).len W2 (HS2.out.1.acts HX.out.1) (HS2.out.2.1.acts HX.out.2))
        cases hsn : rEq x.u y.u
        · rw [hsn] at HC
          have HN := Lib.hid (sameL_ne (get_map HX.out.1) (get_map HX.out.2) hsn)
          clear hsn
          go_wp2_with (first
            | (refine wpList_load_row rfl 29 (.tmp 8) rfl wr.heap.size rfl 29 (rca x) (0, 0) _ RX1.out Tryd.underlying29 rfl infoR ?_)
            | (refine wpList_load_row rfl 29 (.tmp 9) rfl W.heap.size rfl 29 (rca y) (0, 0) _ RY.out Tryd.underlying29 rfl infoR ?_))
          refine HC.out.mono ?_
          rintro e w3 ⟨rfl, hw3⟩
          have HS3 := Lib.hid (SmS.below hw3 HS2.out)
          clear hw3 HS2 HC RX1 RY
          go_wp2_with fail
          go_ret
          exact ⟨ret_bool HN.out.symm, HS3.out.2.2⟩
        · rw [hsn] at HC
          have HN := Lib.hid hsn
          clear hsn
          go_wp2_with (first
            | (refine wpList_load_row rfl 29 (.tmp 8) rfl wr.heap.size rfl 29 (rca x) (0, 0) _ RX1.out Tryd.underlying29 rfl infoR ?_)
            | (refine wpList_load_row rfl 29 (.tmp 9) rfl W.heap.size rfl 29 (rca y) (0, 0) _ RY.out Tryd.underlying29 rfl infoR ?_))
          refine HC.out.mono ?_
          rintro e w3 ⟨rfl, hw3⟩
          have HS3 := Lib.hid (SmS.below hw3 HS2.out)
          clear hw3 HS2 HC RX1 RY
          go_wp2_with fail
          go_roundg (l.length - (r + 1))
          case measure => omega
          case rel =>
            refine ⟨r + 1, by omega, by go_num, fun j x' y' hj hx' hy' => ?_, HS3.out⟩
            by_cases e : j = r
            · subst e
              rw [HX.out.1] at hx'
              rw [HX.out.2] at hy'
              rw [← Option.some.inj hx', ← Option.some.inj hy']; exact HN.out
            · exact HQ.out j x' y' (by omega) hx' hy'
      · have hltI : ¬ (r : Int) < (l.length : Int) := by omega
        have HN := Lib.hid (sameM_yes HLK.out fun j x y hx hy => HQ.out j x y (by have := (List.getElem?_eq_some_iff.1 hx).1; omega) hx hy)
        go_wp2_with fail
        go_ret
        exact ⟨ret_bool HN.out.symm, HS.out.2.2⟩
  · have hd := ne_len hlk
    have HN := Lib.hid (sameL_len (l := l.map (·.u)) (k := k.map (·.u)) (by simpa using hlk))
    clear hlk
    go_enter Tryd.func44, Tryd.ntmps44
    go_wp2_with fail
    go_ret
    exact ⟨ret_bool HN.out.symm, Below.refl _ _⟩
theorem same_rules (v1 v2 : Value) (l k : List Rm) (hlen : l.length ≤ 1000000) (hk : WfRL k) (w0 : World) (h1 : RLies v1 l w0) (h2 : RLies v2 k w0) :
    Calls Tryd.prog 25 #[v1, v2] w0 fun e w' => e = .returned (.bool (sameL (l.map (·.u)) (k.map (·.u)))) ∧ Below w0.heap.size w0 w' := by
  have HE := Lib.hid (equalF_any v1 v2 l k hlen hk w0 h1 h2)
  obtain ⟨p1, c1, rfl⟩ := h1.1.form
  obtain ⟨p2, c2, rfl⟩ := h2.1.form
  clear h1 h2 hk
  go_enter Tryd.func25, Tryd.ntmps25
  go_wp2_with (go_at_call 44; refine HE.out.mono ?_; rintro e w1 ⟨rfl, hw1⟩)
  go_ret
  exact ⟨rfl, hw1⟩
set_option maxRecDepth 100000 in
set_option maxHeartbeats 2000000 in
theorem rsame_rules (v1 v2 : Value) (l k : List Rm) (hlen : l.length ≤ 1000000) (hk : WfRL k) (w0 : World) (h1 : RLies v1 l w0) (h2 : RLies v2 k w0) :
    Calls Tryd.prog 23 #[v1, v2] w0 fun e w' => e = .returned (.bool (sameL (l.map (·.u)) (k.map (·.u)))) ∧ Below w0.heap.size w0 w' := by
  obtain ⟨p1, c1, rfl⟩ := h1.1.form
  obtain ⟨p2, c2, rfl⟩ := h2.1.form
  have HS := Lib.hid (show SmS w0 (.slice p1 l.length c1) (.slice p2 k.length c2) l k w0 from ⟨h1, h2, Below.refl _ _⟩)
  have HW := Lib.hid hk
  clear h1 h2 hk
  by_cases hlk : l.length = k.length
  · have hd := eq_len hlk
    have HLK := Lib.hid hlk
    clear hlk
    go_enter Tryd.func23, Tryd.ntmps23
    go_wp2_with fail
    clear hd
    go_loopg [5] l.length (fun kk i wr => ∃ r : Nat, r + kk = l.length ∧ i = .int .i64 r ∧ (∀ (j : Nat) x y, j < r → l[j]? = some x → k[j]? = some y → rEq x.u y.u = true) ∧ SmS w0 (.slice p1 l.length c1) (.slice p2 k.length c2) l k wr)
    case atStart => exact ⟨0, by omega, rfl, fun j _ _ h => absurd h (by omega), HS.out⟩
    case round =>
      clear HS
      obtain ⟨r, hr, rfl, hq, hs⟩ := hrel
      have HQ := Lib.hid hq
      have HS := Lib.hid hs
      clear hq hs
      by_cases hlt : r < l.length
      · have hltI : (r : Int) < (l.length : Int) := by omega
        have hltK : (r : Int) < (k.length : Int) := by have := HLK.out; omega
        obtain ⟨x, hx⟩ := lt_some hlt
        obtain ⟨y, hy⟩ := lt_some (show r < k.length by have := HLK.out; omega)
        obtain ⟨b1, o1, rfl, _⟩ := HS.out.1.1.at hx
        obtain ⟨b2, o2, rfl, _⟩ := HS.out.2.1.1.at hy
        have HX := Lib.hid (And.intro hx hy)
        clear hx hy
        have HC := Lib.hid (fun (W : World) (h : SmS w0 (.slice (some ⟨b1, o1, none⟩) l.length c1) (.slice (some ⟨b2, o2, none⟩) k.length c2) l k W) => requalR_any x y (HW.out.at HX.out.2).len W (h.1.acts HX.out.1) (h.2.1.acts HX.out.2))
        obtain ⟨z, hz⟩ : ∃ z, z = rEq x.u y.u := ⟨_, rfl⟩
        rw [← hz] at HC
        have HZ := Lib.hid hz
        clear hz
        have hdI : decide ((r : Int) < (l.length : Int)) = true := decide_eq_true hltI
        go_upto_region 6 with (fail)
        refine wp_region_held_drew (S := SmS w0 (.slice (some ⟨b1, o1, none⟩) l.length c1) (.slice (some ⟨b2, o2, none⟩) k.length c2) l k) (by kernel_rfl) (SmS.below (Below.refl _ _).drew HS.out) (fun hS => ?_)
        clear HS
        generalize wr.drew = W at *
        refine seqRead 0 (v := _) rfl (by kernel_rfl) (by kernel_rfl) (by kernel_rfl) (fun _ _ _ h => h) rfl (fun w hSw => by go_simp <;> with_reducible rfl) hS ?_
        try simp only [Act.put, List.setIfInBounds_toArray, List.set_cons_zero, List.set_cons_succ]
        refine seqRead 1 (v := _) rfl (by kernel_rfl) (by kernel_rfl) (by kernel_rfl) (fun _ _ _ h => h) rfl (fun w hSw => by go_simp <;> with_reducible rfl) hS ?_
        try simp only [Act.put, List.setIfInBounds_toArray, List.set_cons_zero, List.set_cons_succ]
        refine seqRead 2 (v := _) rfl (by kernel_rfl) (by kernel_rfl) (by kernel_rfl) (fun _ _ _ h => h) rfl (fun w hSw => by go_simp <;> with_reducible rfl) hS ?_
        try simp only [Act.put, List.setIfInBounds_toArray, List.set_cons_zero, List.set_cons_succ]
        refine seqRead 3 (v := _) rfl (by kernel_rfl) (by kernel_rfl) (by kernel_rfl) (fun _ _ _ h => h) rfl (fun w hSw => execRow rfl b1 (o1 + r * 32) rfl (rcl x) _ (hSw.1.1.at' HX.out.1) Tryd.underlying29 rfl infoR) hS ?_
        try simp only [Act.put, List.setIfInBounds_toArray, List.set_cons_zero, List.set_cons_succ]
        refine seqRead 4 (v := _) rfl (by kernel_rfl) (by kernel_rfl) (by kernel_rfl) (fun _ _ _ h => h) rfl (fun w hSw => by go_simp <;> with_reducible rfl) hS ?_
        try simp only [Act.put, List.setIfInBounds_toArray, List.set_cons_zero, List.set_cons_succ]
        refine seqRead 5 (v := _) rfl (by kernel_rfl) (by kernel_rfl) (by kernel_rfl) (fun _ _ _ h => h) rfl (fun w hSw => by go_simp <;> with_reducible rfl) hS ?_
        try simp only [Act.put, List.setIfInBounds_toArray, List.set_cons_zero, List.set_cons_succ]
        refine seqRead 6 (v := _) rfl (by kernel_rfl) (by kernel_rfl) (by kernel_rfl) (fun _ _ _ h => h) rfl (fun w hSw => by go_simp <;> with_reducible rfl) hS ?_
        try simp only [Act.put, List.setIfInBounds_toArray, List.set_cons_zero, List.set_cons_succ]
        refine seqRead 7 (v := _) rfl (by kernel_rfl) (by kernel_rfl) (by kernel_rfl) (fun _ _ _ h => h) rfl (fun w hSw => execRow rfl b2 (o2 + r * 32) rfl (rcl y) _ (hSw.2.1.1.at' HX.out.2) Tryd.underlying29 rfl infoR) hS ?_
        try simp only [Act.put, List.setIfInBounds_toArray, List.set_cons_zero, List.set_cons_succ]
        refine seqCall 8 rfl (by kernel_rfl) rfl (fun K hK => ?_)
        go_simp
        refine (HC.out _ hS).mono ?_
        rintro e w1 ⟨rfl, hw1⟩
        refine hK.out _ _ (SmS.below hw1 hS) (fun hS => ?_)
        clear hK K hw1
        try simp only [Act.put, List.setIfInBounds_toArray, List.set_cons_zero, List.set_cons_succ]
        refine seqRead 9 (v := _) rfl (by kernel_rfl) (by kernel_rfl) (by kernel_rfl) (fun _ _ _ h => h) rfl (fun w hSw => by go_simp <;> with_reducible rfl) hS ?_
        try simp only [Act.put, List.setIfInBounds_toArray, List.set_cons_zero, List.set_cons_succ]
        refine seqDone (by kernel_rfl) ?_
        have HS1 := Lib.hid hS
        clear hS HC hdI
        cases z
        · have HN := Lib.hid (sameL_ne (get_map HX.out.1) (get_map HX.out.2) HZ.out.symm)
          go_wp2_with fail
          go_ret
          exact ⟨ret_bool HN.out.symm, HS1.out.2.2⟩
        · go_wp2_with fail
          go_roundg (l.length - (r + 1))
          case measure => omega
          case rel =>
            refine ⟨r + 1, by omega, by go_num, fun j x' y' hj hx' hy' => ?_, HS1.out⟩
            by_cases e : j = r
            · subst e
              rw [HX.out.1] at hx'
              rw [HX.out.2] at hy'
              rw [← Option.some.inj hx', ← Option.some.inj hy']; exact HZ.out.symm
            · exact HQ.out j x' y' (by omega) hx' hy'
      · have hltI : ¬ (r : Int) < (l.length : Int) := by omega
        have HN := Lib.hid (sameM_yes HLK.out fun j x y hx hy => HQ.out j x y (by have := (List.getElem?_eq_some_iff.1 hx).1; omega) hx hy)
        go_wp2_with fail
        go_ret
        exact ⟨ret_bool HN.out.symm, HS.out.2.2⟩
  · have hd := ne_len hlk
    have HN := Lib.hid (sameL_len (l := l.map (·.u)) (k := k.map (·.u)) (by simpa using hlk))
    clear hlk
    go_enter Tryd.func23, Tryd.ntmps23
    go_wp2_with fail
    go_ret
    exact ⟨ret_bool HN.out.symm, Below.refl _ _⟩
end Go.Proofs.YthalpnmejompdaaDoor
