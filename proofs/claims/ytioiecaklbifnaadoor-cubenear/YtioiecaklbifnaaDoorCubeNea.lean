/-
  The walk of the law CubeNear.
-/
import Derived.Test.YtioiecaklbifnaaDoorCubeOrd
import Derived.Test.YtioiecaklbifnaaDoorCubeFix
import Derived.Deep.DeepCutAuto
namespace Go.Proofs.YtioiecaklbifnaaDoor
open Go.RowKit

theorem Tab.setRow {W : World} (h : Tab W) {g : Nat} (hg : 0 ≠ g) (cs : Array Value) : Tab (W.setRow g cs) :=
  ⟨fun k hk => ⟨(cell_setRow_other W g cs _ hg).trans (h.1 k hk).1, (cell_setRow_other W g cs _ hg).trans (h.1 k hk).2⟩, by
    obtain ⟨t, fr, hf⟩ := h.2
    exact ⟨t, fr, (setRow_other _ _ _ _ hg).trans hf⟩⟩
theorem Env.setRow {w W : World} (h : Env w W) (hw : 0 < w.heap.size) {g : Nat} (hg : w.heap.size ≤ g) (cs : Array Value) : Env w (W.setRow g cs) :=
  ⟨h.1.setRow (by omega) cs, by rw [setRow_size]; exact h.2.1, below_setRow h.2.2 hg cs⟩
theorem belowDrewN (W : World) : ∀ n, Below W.heap.size W (W.drewN n)
  | 0 => Below.refl _ _
  | n + 1 => (belowDrewN W n).drew
/-- the header of CubeNear lies in its block; with the law's cubes, one or two -/
def NearS (w : World) (h : Nat → Int) (W : World) : Prop := Blk w.heap.size (hc h) 24 W ∧ Env w W ∧ 0 < w.heap.size
theorem NearS.below {w : World} {h : Nat → Int} {W W' : World} (hb : Below W.heap.size W W') (s : NearS w h W) : NearS w h W' := ⟨s.1.below hb, s.2.1.below hb, s.2.2⟩
theorem NearS.env {w : World} {h : Nat → Int} {W : World} (s : NearS w h W) : Env w W := s.2.1
theorem NearS.ge {w : World} {h : Nat → Int} {W : World} (s : NearS w h W) : w.heap.size < W.heap.size := s.1.lt
theorem NearS.setRow {w : World} {h : Nat → Int} {W : World} {g : Nat} {cs : Array Value} (hg : w.heap.size < g) (s : NearS w h W) : NearS w h (W.setRow g cs) := ⟨s.1.rother (by omega) _, s.2.1.setRow s.2.2 (by omega) _, s.2.2⟩
theorem NearS.cell {w : World} {h : Nat → Int} {W : World} (s : NearS w h W) {k : Nat} (hk : k < 12) : W.cell? ⟨w.heap.size, k, none⟩ = some (.int .u64 (h k)) := cell_row s.1 hk
/-- and a cube of the law's own -/
def NearT (w : World) (h : Nat → Int) (bx : Nat) (x : Nat → Int) (W : World) : Prop := NearS w h W ∧ Blk bx (cc x) 26 W
theorem NearT.below {w : World} {h x : Nat → Int} {bx : Nat} {W W' : World} (hb : Below W.heap.size W W') (s : NearT w h bx x W) : NearT w h bx x W' := ⟨NearS.below hb s.1, s.2.below hb⟩
theorem NearT.env {w : World} {h x : Nat → Int} {bx : Nat} {W : World} (s : NearT w h bx x W) : Env w W := s.1.env
theorem NearT.ge {w : World} {h x : Nat → Int} {bx : Nat} {W : World} (s : NearT w h bx x W) : w.heap.size < W.heap.size ∧ bx < W.heap.size := ⟨s.1.ge, s.2.lt⟩
theorem NearT.setRow {w : World} {h x : Nat → Int} {bx : Nat} {W : World} {g : Nat} {cs : Array Value} (hg : w.heap.size < g ∧ bx < g) (s : NearT w h bx x W) : NearT w h bx x (W.setRow g cs) := ⟨NearS.setRow hg.1 s.1, s.2.rother (by omega) _⟩
theorem NearT.cell {w : World} {h x : Nat → Int} {bx : Nat} {W : World} (s : NearT w h bx x W) {k : Nat} (hk : k < 12) : W.cell? ⟨w.heap.size, k, none⟩ = some (.int .u64 (h k)) := s.1.cell hk
set_option maxHeartbeats 2000000 in
theorem near_sound (h x y : Nat → Int) (n a b : Int) (k i j : Nat) (hk : n % 12 = k) (hi : a % (sz k + 1) = i) (hj : b % (sz k + 1) = j) (hn : 0 ≤ n) (hn' : n < 256) (ha : 0 ≤ a) (ha' : a < 256) (hb : 0 ≤ b) (hb' : b < 256)
    (hs : sndB h = true) (h0 : Wf h) (x0 : Wf x) (y0 : Wf y)
    (hx : ∀ W, Tab W → 0 < W.heap.size → Calls Tryd.prog 10 #[.agg (cc zh), .int .i64 k, .int .u64 (h k), .int .i64 i] W fun e w' => e = .returned (.tuple #[.agg (cc x), .int .i64 0]) ∧ Below W.heap.size W w')
    (hy : ∀ W, Tab W → 0 < W.heap.size → Calls Tryd.prog 10 #[.agg (cc zh), .int .i64 k, .int .u64 (h k), .int .i64 j] W fun e w' => e = .returned (.tuple #[.agg (cc y), .int .i64 0]) ∧ Below W.heap.size W w')
    (hxh : hasB x h = true) (hyh : hasB y h = true) (hin : (inB x y == decide (j ≤ i)) = true) (w : World) (ht : Tab w) (hz : 0 < w.heap.size) :
    Calls Tryd.prog 8 #[.agg (hc h), .int .u8 n, .int .u8 a, .int .u8 b] w fun e w' => e = .returned (.bool true) ∧ Below w.heap.size w w' := by
  have hk12 : k < 12 := by omega
  have hkI : (k : Int) < 12 := by omega
  have S0 := Lib.hid (show NearS w h _ from ⟨Blk.new w (hc h) 24, (Env.start ht hz).alloc (.cells (hc h) 24), hz⟩)
  have HX := Lib.hid hx
  have HY := Lib.hid hy
  have HI := Lib.hid hin
  have H0 := Lib.hid h0
  have X0 := Lib.hid x0
  have Y0 := Lib.hid y0
  have H1 := Lib.hid hxh
  have H2 := Lib.hid hyh
  clear ht hx hy hin h0 x0 y0 hxh hyh
  go_enter Tryd.func8, Tryd.ntmps8
  go_wp2_with fail
  refine (rsize_in k _ hk12).mono ?_
  rintro e w1 ⟨rfl, hw1⟩
  have S1 := Lib.hid (NearS.below hw1 S0.out)
  clear hw1 S0 hk
  obtain ⟨hs0, hs1⟩ := sz_le k
  go_wp2_with fail
  go_quiet (fail)
  have S2 := Lib.hid (NearS.below (belowDrewN w1 nq) S1.out)
  generalize w1.drewN nq = W2 at *
  clear S1
  go_wp2_with (refine wpList_load_row rfl 24 _ rfl w.heap.size rfl 24 (hc h) (0, 0) _ S2.out.1 Tryd.underlying24 rfl (by kernel_rfl) ?_)
  refine (rhead_any h _).mono ?_
  rintro e w3 ⟨rfl, hw3⟩
  have S3 := Lib.hid (NearS.below hw3 S2.out)
  clear hw3 S2
  go_upto_region 6 with (fail)
  clear hi hj hs0 hs1 hs
  go_cut [13, 14] (fun p e W => ∃ bx : Nat, p = .pointer (some ⟨bx, 0, none⟩) ∧ e = .int .i64 0 ∧ Blk bx (cc x) 26 W ∧ NearS w h W)
  case first =>
    refine wp_region_held_drew (S := NearS w h) (by kernel_rfl) (NearS.below (Below.refl _ _).drew S3.out) (fun hS => ?_)
    generalize w3.drew = V6 at *
    refine seqRead 1 (v := _) rfl (by kernel_rfl) (by kernel_rfl) (by kernel_rfl) (fun _ _ _ h => h) rfl (fun w hSw => by go_simp <;> with_reducible rfl) hS ?_
    try simp only [Act.put, List.setIfInBounds_toArray, List.set_cons_zero, List.set_cons_succ]
    refine seqRead 2 (v := _) rfl (by kernel_rfl) (by kernel_rfl) (by kernel_rfl) (fun _ _ _ h => h) rfl (fun w hSw => by go_simp <;> with_reducible rfl) hS ?_
    try simp only [Act.put, List.setIfInBounds_toArray, List.set_cons_zero, List.set_cons_succ]
    refine seqRead 3 (v := _) rfl (by kernel_rfl) (by kernel_rfl) (by kernel_rfl) (fun _ _ _ h => h) rfl (fun w hSw => by go_simp <;> with_reducible rfl) hS ?_
    try simp only [Act.put, List.setIfInBounds_toArray, List.set_cons_zero, List.set_cons_succ]
    refine seqRead 4 (v := _) rfl (by kernel_rfl) (by kernel_rfl) (by kernel_rfl) (fun _ _ _ h => h) rfl (fun w hSw => by have hq := hSw.cell hk12; go_simp <;> with_reducible rfl) hS ?_
    try simp only [Act.put, List.setIfInBounds_toArray, List.set_cons_zero, List.set_cons_succ]
    refine seqRead 5 (v := _) rfl (by kernel_rfl) (by kernel_rfl) (by kernel_rfl) (fun _ _ _ h => h) rfl (fun w hSw => by go_simp <;> with_reducible rfl) hS ?_
    try simp only [Act.put, List.setIfInBounds_toArray, List.set_cons_zero, List.set_cons_succ]
    refine seqActs2 0 10 rfl rfl (by kernel_rfl) rfl (fun K hK => ?_) rfl (fun K hK => ?_)
    · go_simp
      refine (call_any _).mono ?_
      rintro e v61 ⟨rfl, hv61⟩
      refine hK.out _ _ (NearS.below hv61 hS) (fun hS => ?_)
      clear hK K
      clear hv61
      try simp only [Act.put, List.setIfInBounds_toArray, List.set_cons_zero, List.set_cons_succ]
      refine seqActs2 6 10 rfl rfl (by kernel_rfl) rfl (fun K hK => ?_) rfl (fun K hK => ?_)
      · go_simp
        refine (HX.out _ hS.env.tab hS.env.lt).mono ?_
        rintro e v62 ⟨rfl, hv62⟩
        refine hK.out _ _ (NearS.below hv62 hS) (fun hS => ?_)
        clear hK K
        clear hv62
        try simp only [Act.put, List.setIfInBounds_toArray, List.set_cons_zero, List.set_cons_succ]
        refine seqRead 7 (v := _) rfl (by kernel_rfl) (by kernel_rfl) (by kernel_rfl) (fun _ _ _ h => h) rfl (fun w hSw => by go_simp <;> with_reducible rfl) hS ?_
        try simp only [Act.put, List.setIfInBounds_toArray, List.set_cons_zero, List.set_cons_succ]
        refine seqRead 8 (v := _) rfl (by kernel_rfl) (by kernel_rfl) (by kernel_rfl) (fun _ _ _ h => h) rfl (fun w hSw => by go_simp <;> with_reducible rfl) hS ?_
        try simp only [Act.put, List.setIfInBounds_toArray, List.set_cons_zero, List.set_cons_succ]
        refine seqRead 9 (v := _) rfl (by kernel_rfl) (by kernel_rfl) (by kernel_rfl) (fun _ _ _ h => h) rfl (fun w hSw => by go_simp <;> with_reducible rfl) hS ?_
        try simp only [Act.put, List.setIfInBounds_toArray, List.set_cons_zero, List.set_cons_succ]
        refine seqCall 10 rfl (by kernel_rfl) rfl (fun K hK => ?_)
        go_simp
        have XG := Lib.hid hS.ge
        have X := Lib.hid (Blk.new v62 #[Value.int IntKind.u64 0, Value.int IntKind.u64 0, Value.int IntKind.u64 0, Value.int IntKind.u64 0, Value.int IntKind.u64 0, Value.int IntKind.u64 0, Value.int IntKind.u64 0, Value.int IntKind.u64 0, Value.int IntKind.u64 0, Value.int IntKind.u64 0, Value.int IntKind.u64 0, Value.int IntKind.u64 0, Value.int IntKind.u64 0, Value.int IntKind.u64 0, Value.int IntKind.u64 0, Value.int IntKind.u64 0, Value.int IntKind.u64 0, Value.int IntKind.u64 0, Value.int IntKind.u64 0, Value.int IntKind.u64 0, Value.int IntKind.u64 0, Value.int IntKind.u64 0, Value.int IntKind.u64 0, Value.int IntKind.u64 0] 26)
        refine hK.out _ _ (NearS.below (below1 _ _) hS) (fun hS => ?_)
        clear hK K
        try simp only [Act.put, List.setIfInBounds_toArray, List.set_cons_zero, List.set_cons_succ]
        refine seqCall 11 rfl (by kernel_rfl) rfl (fun K hK => ?_)
        refine wp_store_row 26 _ _ rfl v62.heap.size (cc x) rfl rfl 26 _ X.out (by kernel_rfl) rfl (cc_one _) (hK.out _ _ (NearS.setRow XG.out hS) (fun hS => ?_))
        have X := Lib.hid (X.out.rset (cc x))
        clear hK K
        try simp only [Act.put]
        refine seqRead 12 (v := _) rfl (by kernel_rfl) (by kernel_rfl) (by kernel_rfl) (fun _ _ _ h => h) rfl (fun w hSw => by go_simp <;> with_reducible rfl) hS ?_
        try simp only [Act.put, List.setIfInBounds_toArray, List.set_cons_zero, List.set_cons_succ]
        refine seqDone (by kernel_rfl) ?_
        go_wp2_with fail
        go_meet
        case rel => exact ⟨v62.heap.size, rfl, rfl, X.out, hS⟩
      · go_simp
        have XG := Lib.hid hS.ge
        have X := Lib.hid (Blk.new v61 #[Value.int IntKind.u64 0, Value.int IntKind.u64 0, Value.int IntKind.u64 0, Value.int IntKind.u64 0, Value.int IntKind.u64 0, Value.int IntKind.u64 0, Value.int IntKind.u64 0, Value.int IntKind.u64 0, Value.int IntKind.u64 0, Value.int IntKind.u64 0, Value.int IntKind.u64 0, Value.int IntKind.u64 0, Value.int IntKind.u64 0, Value.int IntKind.u64 0, Value.int IntKind.u64 0, Value.int IntKind.u64 0, Value.int IntKind.u64 0, Value.int IntKind.u64 0, Value.int IntKind.u64 0, Value.int IntKind.u64 0, Value.int IntKind.u64 0, Value.int IntKind.u64 0, Value.int IntKind.u64 0, Value.int IntKind.u64 0] 26)
        refine hK.out _ _ (NearS.below (below1 _ _) hS) (fun hS => ?_)
        clear hK K
        try simp only [Act.put, List.setIfInBounds_toArray, List.set_cons_zero, List.set_cons_succ]
        refine seqCall 6 rfl (by kernel_rfl) rfl (fun K hK => ?_)
        go_simp
        refine (HX.out _ hS.env.tab hS.env.lt).mono ?_
        rintro e v62 ⟨rfl, hv62⟩
        refine hK.out _ _ (NearS.below hv62 hS) (fun hS => ?_)
        clear hK K
        have X := Lib.hid (X.out.below hv62)
        clear hv62
        try simp only [Act.put, List.setIfInBounds_toArray, List.set_cons_zero, List.set_cons_succ]
        refine seqRead 7 (v := _) rfl (by kernel_rfl) (by kernel_rfl) (by kernel_rfl) (fun _ _ _ h => h) rfl (fun w hSw => by go_simp <;> with_reducible rfl) hS ?_
        try simp only [Act.put, List.setIfInBounds_toArray, List.set_cons_zero, List.set_cons_succ]
        refine seqRead 8 (v := _) rfl (by kernel_rfl) (by kernel_rfl) (by kernel_rfl) (fun _ _ _ h => h) rfl (fun w hSw => by go_simp <;> with_reducible rfl) hS ?_
        try simp only [Act.put, List.setIfInBounds_toArray, List.set_cons_zero, List.set_cons_succ]
        refine seqRead 9 (v := _) rfl (by kernel_rfl) (by kernel_rfl) (by kernel_rfl) (fun _ _ _ h => h) rfl (fun w hSw => by go_simp <;> with_reducible rfl) hS ?_
        try simp only [Act.put, List.setIfInBounds_toArray, List.set_cons_zero, List.set_cons_succ]
        refine seqCall 11 rfl (by kernel_rfl) rfl (fun K hK => ?_)
        refine wp_store_row 26 _ _ rfl v61.heap.size (cc x) rfl rfl 26 _ X.out (by kernel_rfl) rfl (cc_one _) (hK.out _ _ (NearS.setRow XG.out hS) (fun hS => ?_))
        have X := Lib.hid (X.out.rset (cc x))
        clear hK K
        try simp only [Act.put]
        refine seqRead 12 (v := _) rfl (by kernel_rfl) (by kernel_rfl) (by kernel_rfl) (fun _ _ _ h => h) rfl (fun w hSw => by go_simp <;> with_reducible rfl) hS ?_
        try simp only [Act.put, List.setIfInBounds_toArray, List.set_cons_zero, List.set_cons_succ]
        refine seqDone (by kernel_rfl) ?_
        go_wp2_with fail
        go_meet
        case rel => exact ⟨v61.heap.size, rfl, rfl, X.out, hS⟩
    · go_simp
      have XG := Lib.hid hS.ge
      have X := Lib.hid (Blk.new V6 #[Value.int IntKind.u64 0, Value.int IntKind.u64 0, Value.int IntKind.u64 0, Value.int IntKind.u64 0, Value.int IntKind.u64 0, Value.int IntKind.u64 0, Value.int IntKind.u64 0, Value.int IntKind.u64 0, Value.int IntKind.u64 0, Value.int IntKind.u64 0, Value.int IntKind.u64 0, Value.int IntKind.u64 0, Value.int IntKind.u64 0, Value.int IntKind.u64 0, Value.int IntKind.u64 0, Value.int IntKind.u64 0, Value.int IntKind.u64 0, Value.int IntKind.u64 0, Value.int IntKind.u64 0, Value.int IntKind.u64 0, Value.int IntKind.u64 0, Value.int IntKind.u64 0, Value.int IntKind.u64 0, Value.int IntKind.u64 0] 26)
      refine hK.out _ _ (NearS.below (below1 _ _) hS) (fun hS => ?_)
      clear hK K
      try simp only [Act.put, List.setIfInBounds_toArray, List.set_cons_zero, List.set_cons_succ]
      refine seqCall 0 rfl (by kernel_rfl) rfl (fun K hK => ?_)
      go_simp
      refine (call_any _).mono ?_
      rintro e v61 ⟨rfl, hv61⟩
      refine hK.out _ _ (NearS.below hv61 hS) (fun hS => ?_)
      clear hK K
      have X := Lib.hid (X.out.below hv61)
      clear hv61
      try simp only [Act.put, List.setIfInBounds_toArray, List.set_cons_zero, List.set_cons_succ]
      refine seqCall 6 rfl (by kernel_rfl) rfl (fun K hK => ?_)
      go_simp
      refine (HX.out _ hS.env.tab hS.env.lt).mono ?_
      rintro e v62 ⟨rfl, hv62⟩
      refine hK.out _ _ (NearS.below hv62 hS) (fun hS => ?_)
      clear hK K
      have X := Lib.hid (X.out.below hv62)
      clear hv62
      try simp only [Act.put, List.setIfInBounds_toArray, List.set_cons_zero, List.set_cons_succ]
      refine seqRead 7 (v := _) rfl (by kernel_rfl) (by kernel_rfl) (by kernel_rfl) (fun _ _ _ h => h) rfl (fun w hSw => by go_simp <;> with_reducible rfl) hS ?_
      try simp only [Act.put, List.setIfInBounds_toArray, List.set_cons_zero, List.set_cons_succ]
      refine seqRead 8 (v := _) rfl (by kernel_rfl) (by kernel_rfl) (by kernel_rfl) (fun _ _ _ h => h) rfl (fun w hSw => by go_simp <;> with_reducible rfl) hS ?_
      try simp only [Act.put, List.setIfInBounds_toArray, List.set_cons_zero, List.set_cons_succ]
      refine seqRead 9 (v := _) rfl (by kernel_rfl) (by kernel_rfl) (by kernel_rfl) (fun _ _ _ h => h) rfl (fun w hSw => by go_simp <;> with_reducible rfl) hS ?_
      try simp only [Act.put, List.setIfInBounds_toArray, List.set_cons_zero, List.set_cons_succ]
      refine seqCall 11 rfl (by kernel_rfl) rfl (fun K hK => ?_)
      refine wp_store_row 26 _ _ rfl V6.heap.size (cc x) rfl rfl 26 _ X.out (by kernel_rfl) rfl (cc_one _) (hK.out _ _ (NearS.setRow XG.out hS) (fun hS => ?_))
      have X := Lib.hid (X.out.rset (cc x))
      clear hK K
      try simp only [Act.put]
      refine seqRead 12 (v := _) rfl (by kernel_rfl) (by kernel_rfl) (by kernel_rfl) (fun _ _ _ h => h) rfl (fun w hSw => by go_simp <;> with_reducible rfl) hS ?_
      try simp only [Act.put, List.setIfInBounds_toArray, List.set_cons_zero, List.set_cons_succ]
      refine seqDone (by kernel_rfl) ?_
      go_wp2_with fail
      go_meet
      case rel => exact ⟨V6.heap.size, rfl, rfl, X.out, hS⟩
  case rest =>
    obtain ⟨bx, rfl, rfl, hbx, hS6⟩ := hcut
    have BX := Lib.hid hbx
    have S6 := Lib.hid hS6
    clear hbx hS6
    go_upto_region 7 with (fail)
    go_cut [15, 16] (fun p e W => ∃ by_ : Nat, p = .pointer (some ⟨by_, 0, none⟩) ∧ e = .int .i64 0 ∧ Blk by_ (cc y) 26 W ∧ NearT w h bx x W)
    case first =>
      have T0 := Lib.hid (show NearT w h bx x wc from ⟨S6.out, BX.out⟩)
      clear S6 BX
      refine wp_region_held_drew (S := NearT w h bx x) (by kernel_rfl) (NearT.below (Below.refl _ _).drew T0.out) (fun hS => ?_)
      clear T0
      generalize wc.drew = V7 at *
      refine seqRead 1 (v := _) rfl (by kernel_rfl) (by kernel_rfl) (by kernel_rfl) (fun _ _ _ h => h) rfl (fun w hSw => by go_simp <;> with_reducible rfl) hS ?_
      try simp only [Act.put, List.setIfInBounds_toArray, List.set_cons_zero, List.set_cons_succ]
      refine seqRead 2 (v := _) rfl (by kernel_rfl) (by kernel_rfl) (by kernel_rfl) (fun _ _ _ h => h) rfl (fun w hSw => by go_simp <;> with_reducible rfl) hS ?_
      try simp only [Act.put, List.setIfInBounds_toArray, List.set_cons_zero, List.set_cons_succ]
      refine seqRead 3 (v := _) rfl (by kernel_rfl) (by kernel_rfl) (by kernel_rfl) (fun _ _ _ h => h) rfl (fun w hSw => by go_simp <;> with_reducible rfl) hS ?_
      try simp only [Act.put, List.setIfInBounds_toArray, List.set_cons_zero, List.set_cons_succ]
      refine seqRead 4 (v := _) rfl (by kernel_rfl) (by kernel_rfl) (by kernel_rfl) (fun _ _ _ h => h) rfl (fun w hSw => by have hq := hSw.cell hk12; go_simp <;> with_reducible rfl) hS ?_
      try simp only [Act.put, List.setIfInBounds_toArray, List.set_cons_zero, List.set_cons_succ]
      refine seqRead 5 (v := _) rfl (by kernel_rfl) (by kernel_rfl) (by kernel_rfl) (fun _ _ _ h => h) rfl (fun w hSw => by go_simp <;> with_reducible rfl) hS ?_
      try simp only [Act.put, List.setIfInBounds_toArray, List.set_cons_zero, List.set_cons_succ]
      refine seqActs2 0 10 rfl rfl (by kernel_rfl) rfl (fun K hK => ?_) rfl (fun K hK => ?_)
      · go_simp
        refine (call_any _).mono ?_
        rintro e v71 ⟨rfl, hv71⟩
        refine hK.out _ _ (NearT.below hv71 hS) (fun hS => ?_)
        clear hK K
        clear hv71
        try simp only [Act.put, List.setIfInBounds_toArray, List.set_cons_zero, List.set_cons_succ]
        refine seqActs2 6 10 rfl rfl (by kernel_rfl) rfl (fun K hK => ?_) rfl (fun K hK => ?_)
        · go_simp
          refine (HY.out _ hS.env.tab hS.env.lt).mono ?_
          rintro e v72 ⟨rfl, hv72⟩
          refine hK.out _ _ (NearT.below hv72 hS) (fun hS => ?_)
          clear hK K
          clear hv72
          try simp only [Act.put, List.setIfInBounds_toArray, List.set_cons_zero, List.set_cons_succ]
          refine seqRead 7 (v := _) rfl (by kernel_rfl) (by kernel_rfl) (by kernel_rfl) (fun _ _ _ h => h) rfl (fun w hSw => by go_simp <;> with_reducible rfl) hS ?_
          try simp only [Act.put, List.setIfInBounds_toArray, List.set_cons_zero, List.set_cons_succ]
          refine seqRead 8 (v := _) rfl (by kernel_rfl) (by kernel_rfl) (by kernel_rfl) (fun _ _ _ h => h) rfl (fun w hSw => by go_simp <;> with_reducible rfl) hS ?_
          try simp only [Act.put, List.setIfInBounds_toArray, List.set_cons_zero, List.set_cons_succ]
          refine seqRead 9 (v := _) rfl (by kernel_rfl) (by kernel_rfl) (by kernel_rfl) (fun _ _ _ h => h) rfl (fun w hSw => by go_simp <;> with_reducible rfl) hS ?_
          try simp only [Act.put, List.setIfInBounds_toArray, List.set_cons_zero, List.set_cons_succ]
          refine seqCall 10 rfl (by kernel_rfl) rfl (fun K hK => ?_)
          go_simp
          have XG := Lib.hid hS.ge
          have X := Lib.hid (Blk.new v72 #[Value.int IntKind.u64 0, Value.int IntKind.u64 0, Value.int IntKind.u64 0, Value.int IntKind.u64 0, Value.int IntKind.u64 0, Value.int IntKind.u64 0, Value.int IntKind.u64 0, Value.int IntKind.u64 0, Value.int IntKind.u64 0, Value.int IntKind.u64 0, Value.int IntKind.u64 0, Value.int IntKind.u64 0, Value.int IntKind.u64 0, Value.int IntKind.u64 0, Value.int IntKind.u64 0, Value.int IntKind.u64 0, Value.int IntKind.u64 0, Value.int IntKind.u64 0, Value.int IntKind.u64 0, Value.int IntKind.u64 0, Value.int IntKind.u64 0, Value.int IntKind.u64 0, Value.int IntKind.u64 0, Value.int IntKind.u64 0] 26)
          refine hK.out _ _ (NearT.below (below1 _ _) hS) (fun hS => ?_)
          clear hK K
          try simp only [Act.put, List.setIfInBounds_toArray, List.set_cons_zero, List.set_cons_succ]
          refine seqCall 11 rfl (by kernel_rfl) rfl (fun K hK => ?_)
          refine wp_store_row 26 _ _ rfl v72.heap.size (cc y) rfl rfl 26 _ X.out (by kernel_rfl) rfl (cc_one _) (hK.out _ _ (NearT.setRow XG.out hS) (fun hS => ?_))
          have X := Lib.hid (X.out.rset (cc y))
          clear hK K
          try simp only [Act.put]
          refine seqRead 12 (v := _) rfl (by kernel_rfl) (by kernel_rfl) (by kernel_rfl) (fun _ _ _ h => h) rfl (fun w hSw => by go_simp <;> with_reducible rfl) hS ?_
          try simp only [Act.put, List.setIfInBounds_toArray, List.set_cons_zero, List.set_cons_succ]
          refine seqDone (by kernel_rfl) ?_
          go_wp2_with fail
          go_meet
          case rel => exact ⟨v72.heap.size, rfl, rfl, X.out, hS⟩
        · go_simp
          have XG := Lib.hid hS.ge
          have X := Lib.hid (Blk.new v71 #[Value.int IntKind.u64 0, Value.int IntKind.u64 0, Value.int IntKind.u64 0, Value.int IntKind.u64 0, Value.int IntKind.u64 0, Value.int IntKind.u64 0, Value.int IntKind.u64 0, Value.int IntKind.u64 0, Value.int IntKind.u64 0, Value.int IntKind.u64 0, Value.int IntKind.u64 0, Value.int IntKind.u64 0, Value.int IntKind.u64 0, Value.int IntKind.u64 0, Value.int IntKind.u64 0, Value.int IntKind.u64 0, Value.int IntKind.u64 0, Value.int IntKind.u64 0, Value.int IntKind.u64 0, Value.int IntKind.u64 0, Value.int IntKind.u64 0, Value.int IntKind.u64 0, Value.int IntKind.u64 0, Value.int IntKind.u64 0] 26)
          refine hK.out _ _ (NearT.below (below1 _ _) hS) (fun hS => ?_)
          clear hK K
          try simp only [Act.put, List.setIfInBounds_toArray, List.set_cons_zero, List.set_cons_succ]
          refine seqCall 6 rfl (by kernel_rfl) rfl (fun K hK => ?_)
          go_simp
          refine (HY.out _ hS.env.tab hS.env.lt).mono ?_
          rintro e v72 ⟨rfl, hv72⟩
          refine hK.out _ _ (NearT.below hv72 hS) (fun hS => ?_)
          clear hK K
          have X := Lib.hid (X.out.below hv72)
          clear hv72
          try simp only [Act.put, List.setIfInBounds_toArray, List.set_cons_zero, List.set_cons_succ]
          refine seqRead 7 (v := _) rfl (by kernel_rfl) (by kernel_rfl) (by kernel_rfl) (fun _ _ _ h => h) rfl (fun w hSw => by go_simp <;> with_reducible rfl) hS ?_
          try simp only [Act.put, List.setIfInBounds_toArray, List.set_cons_zero, List.set_cons_succ]
          refine seqRead 8 (v := _) rfl (by kernel_rfl) (by kernel_rfl) (by kernel_rfl) (fun _ _ _ h => h) rfl (fun w hSw => by go_simp <;> with_reducible rfl) hS ?_
          try simp only [Act.put, List.setIfInBounds_toArray, List.set_cons_zero, List.set_cons_succ]
          refine seqRead 9 (v := _) rfl (by kernel_rfl) (by kernel_rfl) (by kernel_rfl) (fun _ _ _ h => h) rfl (fun w hSw => by go_simp <;> with_reducible rfl) hS ?_
          try simp only [Act.put, List.setIfInBounds_toArray, List.set_cons_zero, List.set_cons_succ]
          refine seqCall 11 rfl (by kernel_rfl) rfl (fun K hK => ?_)
          refine wp_store_row 26 _ _ rfl v71.heap.size (cc y) rfl rfl 26 _ X.out (by kernel_rfl) rfl (cc_one _) (hK.out _ _ (NearT.setRow XG.out hS) (fun hS => ?_))
          have X := Lib.hid (X.out.rset (cc y))
          clear hK K
          try simp only [Act.put]
          refine seqRead 12 (v := _) rfl (by kernel_rfl) (by kernel_rfl) (by kernel_rfl) (fun _ _ _ h => h) rfl (fun w hSw => by go_simp <;> with_reducible rfl) hS ?_
          try simp only [Act.put, List.setIfInBounds_toArray, List.set_cons_zero, List.set_cons_succ]
          refine seqDone (by kernel_rfl) ?_
          go_wp2_with fail
          go_meet
          case rel => exact ⟨v71.heap.size, rfl, rfl, X.out, hS⟩
      · go_simp
        have XG := Lib.hid hS.ge
        have X := Lib.hid (Blk.new V7 #[Value.int IntKind.u64 0, Value.int IntKind.u64 0, Value.int IntKind.u64 0, Value.int IntKind.u64 0, Value.int IntKind.u64 0, Value.int IntKind.u64 0, Value.int IntKind.u64 0, Value.int IntKind.u64 0, Value.int IntKind.u64 0, Value.int IntKind.u64 0, Value.int IntKind.u64 0, Value.int IntKind.u64 0, Value.int IntKind.u64 0, Value.int IntKind.u64 0, Value.int IntKind.u64 0, Value.int IntKind.u64 0, Value.int IntKind.u64 0, Value.int IntKind.u64 0, Value.int IntKind.u64 0, Value.int IntKind.u64 0, Value.int IntKind.u64 0, Value.int IntKind.u64 0, Value.int IntKind.u64 0, Value.int IntKind.u64 0] 26)
        refine hK.out _ _ (NearT.below (below1 _ _) hS) (fun hS => ?_)
        clear hK K
        try simp only [Act.put, List.setIfInBounds_toArray, List.set_cons_zero, List.set_cons_succ]
        refine seqCall 0 rfl (by kernel_rfl) rfl (fun K hK => ?_)
        go_simp
        refine (call_any _).mono ?_
        rintro e v71 ⟨rfl, hv71⟩
        refine hK.out _ _ (NearT.below hv71 hS) (fun hS => ?_)
        clear hK K
        have X := Lib.hid (X.out.below hv71)
        clear hv71
        try simp only [Act.put, List.setIfInBounds_toArray, List.set_cons_zero, List.set_cons_succ]
        refine seqCall 6 rfl (by kernel_rfl) rfl (fun K hK => ?_)
        go_simp
        refine (HY.out _ hS.env.tab hS.env.lt).mono ?_
        rintro e v72 ⟨rfl, hv72⟩
        refine hK.out _ _ (NearT.below hv72 hS) (fun hS => ?_)
        clear hK K
        have X := Lib.hid (X.out.below hv72)
        clear hv72
        try simp only [Act.put, List.setIfInBounds_toArray, List.set_cons_zero, List.set_cons_succ]
        refine seqRead 7 (v := _) rfl (by kernel_rfl) (by kernel_rfl) (by kernel_rfl) (fun _ _ _ h => h) rfl (fun w hSw => by go_simp <;> with_reducible rfl) hS ?_
        try simp only [Act.put, List.setIfInBounds_toArray, List.set_cons_zero, List.set_cons_succ]
        refine seqRead 8 (v := _) rfl (by kernel_rfl) (by kernel_rfl) (by kernel_rfl) (fun _ _ _ h => h) rfl (fun w hSw => by go_simp <;> with_reducible rfl) hS ?_
        try simp only [Act.put, List.setIfInBounds_toArray, List.set_cons_zero, List.set_cons_succ]
        refine seqRead 9 (v := _) rfl (by kernel_rfl) (by kernel_rfl) (by kernel_rfl) (fun _ _ _ h => h) rfl (fun w hSw => by go_simp <;> with_reducible rfl) hS ?_
        try simp only [Act.put, List.setIfInBounds_toArray, List.set_cons_zero, List.set_cons_succ]
        refine seqCall 11 rfl (by kernel_rfl) rfl (fun K hK => ?_)
        refine wp_store_row 26 _ _ rfl V7.heap.size (cc y) rfl rfl 26 _ X.out (by kernel_rfl) rfl (cc_one _) (hK.out _ _ (NearT.setRow XG.out hS) (fun hS => ?_))
        have X := Lib.hid (X.out.rset (cc y))
        clear hK K
        try simp only [Act.put]
        refine seqRead 12 (v := _) rfl (by kernel_rfl) (by kernel_rfl) (by kernel_rfl) (fun _ _ _ h => h) rfl (fun w hSw => by go_simp <;> with_reducible rfl) hS ?_
        try simp only [Act.put, List.setIfInBounds_toArray, List.set_cons_zero, List.set_cons_succ]
        refine seqDone (by kernel_rfl) ?_
        go_wp2_with fail
        go_meet
        case rel => exact ⟨V7.heap.size, rfl, rfl, X.out, hS⟩
    case rest =>
      clear BX S6
      obtain ⟨by_, rfl, rfl, hby, hT⟩ := hcut
      have BY := Lib.hid hby
      have T1 := Lib.hid hT
      clear hby hT
      go_wp2_with fail
      refine (canswers _ T1.out.env.tab T1.out.env.lt).mono ?_
      rintro e w8 ⟨rfl, hw8⟩
      have T2 := Lib.hid (NearT.below hw8 T1.out)
      have BY2 := Lib.hid (BY.out.below hw8)
      clear hw8 T1 BY
      go_wp2_with (first
        | (refine loadRowG rfl 26 _ rfl bx rfl 26 (cc x) (0, 0) T2.out.2 Tryd.underlying26 rfl (by kernel_rfl) ?_)
        | (refine loadRowG rfl 24 _ rfl w.heap.size rfl 24 (hc h) (0, 0) T2.out.1.1 Tryd.underlying24 rfl (by kernel_rfl) ?_))
      have HQ := chas_any x h X0.out.nonneg H0.out.nonneg _ T2.out.env.tab T2.out.env.lt
      rw [H1.out] at HQ
      refine HQ.mono ?_
      clear HQ
      rintro e w9 ⟨rfl, hw9⟩
      have T3 := Lib.hid (NearT.below hw9 T2.out)
      have BY3 := Lib.hid (BY2.out.below hw9)
      clear hw9 T2 BY2
      go_wp2_with (first
        | (refine loadRowG rfl 26 _ rfl by_ rfl 26 (cc y) (0, 0) BY3.out Tryd.underlying26 rfl (by kernel_rfl) ?_)
        | (refine loadRowG rfl 24 _ rfl w.heap.size rfl 24 (hc h) (0, 0) T3.out.1.1 Tryd.underlying24 rfl (by kernel_rfl) ?_))
      have HQ := chas_any y h Y0.out.nonneg H0.out.nonneg _ T3.out.env.tab T3.out.env.lt
      rw [H2.out] at HQ
      refine HQ.mono ?_
      clear HQ
      rintro e w10 ⟨rfl, hw10⟩
      have T4 := Lib.hid (NearT.below hw10 T3.out)
      have BY4 := Lib.hid (BY3.out.below hw10)
      clear hw10 T3 BY3
      go_wp2_with (first
        | (refine loadRowG rfl 26 _ rfl bx rfl 26 (cc x) (0, 0) T4.out.2 Tryd.underlying26 rfl (by kernel_rfl) ?_)
        | (refine loadRowG rfl 26 _ rfl by_ rfl 26 (cc y) (0, 0) BY4.out Tryd.underlying26 rfl (by kernel_rfl) ?_))
      refine (cwithin_any x y X0.out.nonneg Y0.out.nonneg _ T4.out.env.tab T4.out.env.lt).mono ?_
      rintro e w11 ⟨rfl, hw11⟩
      have HB := Lib.hid (NearT.below hw11 T4.out).env.kept
      clear hw11 T4 BY4
      have hin := HI.out
      go_wp2
      go_ret
      exact ⟨by simp, HB.out⟩
set_option maxHeartbeats 1000000 in
theorem near_unsound (h : Nat → Int) (n a b : Int) (k i j : Nat) (hk : n % 12 = k) (hi : a % (sz k + 1) = i) (hj : b % (sz k + 1) = j) (hn : 0 ≤ n) (hn' : n < 256) (ha : 0 ≤ a) (ha' : a < 256) (hb : 0 ≤ b) (hb' : b < 256)
    (hs : sndB h = false) (w : World) (ht : Tab w) (hz : 0 < w.heap.size) :
    Calls Tryd.prog 8 #[.agg (hc h), .int .u8 n, .int .u8 a, .int .u8 b] w fun e w' => e = .returned (.bool true) ∧ Below w.heap.size w w' := by
  have hk12 : k < 12 := by omega
  have S0 := Lib.hid (show NearS w h _ from ⟨Blk.new w (hc h) 24, (Env.start ht hz).alloc (.cells (hc h) 24), hz⟩)
  clear ht
  go_enter Tryd.func8, Tryd.ntmps8
  go_wp2_with fail
  refine (rsize_in k _ hk12).mono ?_
  rintro e w1 ⟨rfl, hw1⟩
  have S1 := Lib.hid (NearS.below hw1 S0.out)
  clear hw1 S0 hk
  obtain ⟨hs0, hs1⟩ := sz_le k
  go_wp2_with fail
  go_quiet (fail)
  have S2 := Lib.hid (NearS.below (belowDrewN w1 nq) S1.out)
  generalize w1.drewN nq = W2 at *
  clear S1
  go_wp2_with (refine wpList_load_row rfl 24 _ rfl w.heap.size rfl 24 (hc h) (0, 0) _ S2.out.1 Tryd.underlying24 rfl (by kernel_rfl) ?_)
  refine (rhead_any h _).mono ?_
  rintro e w3 ⟨rfl, hw3⟩
  have S3 := Lib.hid (NearS.below hw3 S2.out)
  clear hw3 S2
  go_wp2_with fail
  refine (canswers _ S3.out.env.tab S3.out.env.lt).mono ?_
  rintro e w4 ⟨rfl, hw4⟩
  go_wp2
  go_ret
  exact ⟨rfl, (NearS.below hw4 S3.out).env.kept⟩
theorem u8_of {a : Int} (h : (Lit.int .u8 a).wf = true) : 0 ≤ a ∧ a < 256 := by
  simp only [Lit.wf, Bool.and_eq_true, decide_eq_true_eq] at h
  have e : IntKind.u8.max = 255 := by decide
  exact ⟨h.1, by have := h.2; omega⟩
theorem withE_in (k : Nat) (v : Int) (i : Nat) (hk : k < 12) (hf : fitB k v = true) (hi : (i : Int) ≤ sz k) : withE zh k v i = 0 := by
  unfold withE
  rw [if_pos zh_snd, setE_in k v hk hf, if_pos rfl, if_neg]
  rw [Int.toNat_natCast]
  omega
theorem cubeNear_any (h : Nat → Int) (hh : Wf h) (n : Int) (wn : (Lit.int .u8 n).wf = true) (a : Int) (wa : (Lit.int .u8 a).wf = true) (b : Int) (wb : (Lit.int .u8 b).wf = true) (w : World) (ht : Tab w) (hz : 0 < w.heap.size) :
    Calls Tryd.prog 8 #[.agg (hc h), .int .u8 n, .int .u8 a, .int .u8 b] w fun e w' => e = .returned (.bool true) ∧ Below w.heap.size w w' := by
  obtain ⟨n0, n1⟩ := u8_of wn
  obtain ⟨a0, a1⟩ := u8_of wa
  obtain ⟨b0, b1⟩ := u8_of wb
  obtain ⟨k, hk⟩ : ∃ k : Nat, n % 12 = k := ⟨(n % 12).toNat, by omega⟩
  obtain ⟨s0, s1⟩ := sz_le k
  have ra := Int.emod_nonneg a (show sz k + 1 ≠ 0 by omega)
  have rb := Int.emod_nonneg b (show sz k + 1 ≠ 0 by omega)
  have la := Int.emod_lt_of_pos a (show 0 < sz k + 1 by omega)
  have lb := Int.emod_lt_of_pos b (show 0 < sz k + 1 by omega)
  obtain ⟨i, hi⟩ : ∃ i : Nat, a % (sz k + 1) = i := ⟨(a % (sz k + 1)).toNat, by omega⟩
  obtain ⟨j, hj⟩ : ∃ j : Nat, b % (sz k + 1) = j := ⟨(b % (sz k + 1)).toNat, by omega⟩
  cases hs : sndB h
  · exact near_unsound h n a b k i j hk hi hj n0 n1 a0 a1 b0 b1 hs w ht hz
  · have hk12 : k < 12 := by omega
    have hf := (snd_iff h).1 hs k hk12
    have key : ∀ m : Nat, (m : Int) ≤ sz k → ∀ W, Tab W → 0 < W.heap.size → Calls Tryd.prog 10 #[.agg (cc zh), .int .i64 k, .int .u64 (h k), .int .i64 m] W fun e w' => e = .returned (.tuple #[.agg (cc (fixed zh k (h k) m)), .int .i64 0]) ∧ Below W.heap.size W w' := fun m hm W t z => by
      have := cwith_any zh k (h k) m (fun _ => Int.le_refl 0) (hh k).1 W t z
      rw [withV, withE_in k (h k) m hk12 hf hm, if_pos rfl, Int.toNat_natCast, Int.toNat_natCast] at this
      exact this
    exact near_sound h _ _ n a b k i j hk hi hj n0 n1 a0 a1 b0 b1 hs hh (fixed_wf zh_wf k _ (hh k) i) (fixed_wf zh_wf k _ (hh k) j) (key i (by omega)) (key j (by omega))
      (fixed_has hh hs k hk12 i) (fixed_has hh hs k hk12 j) (fixed_in k hk12 (hh k) hf i j (by omega) (by omega)) w ht hz
end Go.Proofs.YtioiecaklbifnaaDoor
