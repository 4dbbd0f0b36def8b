/-
  The walks of the reference's Has and Within.
-/
import Derived.Test.YtamjaohoicedfaaDoorRefFrom
namespace Go.Proofs.YtamjaohoicedfaaDoor
open Go.RowKit

/-- two texts held together, letter by letter -/
def all2 (p : UInt8 → UInt8 → Bool) (X Y : List UInt8) (r : Nat) : Bool := (List.range r).all fun i => p (X.getD i 0) (Y.getD i 0)
theorem all2_zero (p : UInt8 → UInt8 → Bool) (X Y : List UInt8) : all2 p X Y 0 = true := rfl
theorem all2_succ (p : UInt8 → UInt8 → Bool) (X Y : List UInt8) (r : Nat) : all2 p X Y (r + 1) = (all2 p X Y r && p (X.getD r 0) (Y.getD r 0)) := by
  unfold all2
  rw [List.range_succ, List.all_append]; simp
theorem getD_at {X : List UInt8} {r : Nat} (h : r < X.length) : X[r]? = some (X.getD r 0) := by
  rw [List.getD_eq_getElem?_getD, List.getElem?_eq_getElem h]; rfl
/-- does a letter of a cube meet another letter? -/
def mtch (x y : UInt8) : Bool := x == 120 || x == y
theorem u8_eq (x y : UInt8) : ((x.toNat : Int) == (y.toNat : Int)) = (x == y) := by
  rw [Bool.eq_iff_iff]
  simp only [beq_iff_eq]
  constructor
  · intro h; exact UInt8.toNat_inj.1 (by omega)
  · intro h; rw [h]
theorem u8_x (x : UInt8) : ((x.toNat : Int) == 120) = (x == 120) := by
  have := u8_eq x 120
  rwa [show ((120 : UInt8).toNat : Int) = 120 from rfl] at this
/-- what one letter comes to -/
theorem mtch_cases (x y : UInt8) : ∃ i j : Int, i = (x.toNat : Int) ∧ j = (y.toNat : Int) ∧ (((i == 120) = true ∧ mtch x y = true) ∨ ((i == 120) = false ∧ (i == j) = true ∧ mtch x y = true) ∨ ((i == 120) = false ∧ (i == j) = false ∧ mtch x y = false)) := by
  refine ⟨_, _, rfl, rfl, ?_⟩
  rw [u8_x, u8_eq]
  unfold mtch
  cases x == 120 <;> cases x == y <;> simp
/-- the rows of the reference's Has -/
def HasS (w : World) (c h : Nat → Int) (W : World) : Prop := Blk w.heap.size (cc c) 30 W ∧ Blk (w.heap.size + 1) (hc h) 25 W ∧ Below w.heap.size w W
theorem HasS.below {w : World} {c h : Nat → Int} {W W' : World} (hb : Below W.heap.size W W') (s : HasS w c h W) : HasS w c h W' := ⟨s.1.below hb, s.2.1.below hb, s.2.2.trans (hb.mono s.2.2.size)⟩
set_option maxHeartbeats 2000000 in
theorem rhas_of (c h : Nat → Int) (wc : Wf c) (wh : Wf h) (w : World) :
    Calls Tryd.prog 9 #[.agg (cc c), .agg (hc h)] w fun e w' => e = .returned (.bool ((csnd c && all2 mtch (textTo c 12) (wholeTo h 12) 248) && sndB h)) ∧ Below w.heap.size w w' := by
  have S0 := Lib.hid (show HasS w c h ((w.alloc (.cells (cc c) 30)).alloc (.cells (hc h) 25)) from ⟨(Blk.new w (cc c) 30).old _, Blk.new2 w _ _ _, below2 _ _ _⟩)
  have HT := Lib.hid fun W => rtext_any c wc W
  have HW := Lib.hid fun W => rwhole_any h wh W
  have HLX := Lib.hid (text_len c)
  have HLY := Lib.hid (whole_len h)
  clear wc wh
  generalize textTo c 12 = X at *
  generalize wholeTo h 12 = Y at *
  generalize csnd c = k0 at *
  go_enter Tryd.func9, Tryd.ntmps9
  go_wp2_with (refine wpList_load_row rfl 30 _ rfl w.heap.size rfl 30 (cc c) (0, 0) _ S0.out.1 Tryd.underlying30 rfl (by kernel_rfl) ?_)
  refine (HT.out _).mono ?_
  rintro e w1 ⟨rfl, hw1⟩
  have S1 := Lib.hid (HasS.below hw1 S0.out)
  clear hw1 S0 HT
  go_wp2_with (refine wpList_load_row rfl 25 _ rfl (w.heap.size + 1) rfl 25 (hc h) (0, 0) _ S1.out.2.1 Tryd.underlying25 rfl (by kernel_rfl) ?_)
  refine (HW.out _).mono ?_
  rintro e w2 ⟨rfl, hw2⟩
  have S2 := Lib.hid (HasS.below hw2 S1.out)
  clear hw2 S1 HW
  go_wp2_with fail
  go_loopg [8, 6] 248 (fun g i ok wr => ∃ r : Nat, r + g = 248 ∧ i = .int .i64 r ∧ ok = .bool (k0 && all2 mtch X Y r) ∧ HasS w c h wr)
  case atStart => exact ⟨0, by omega, rfl, by rw [all2_zero, Bool.and_true], S2.out⟩
  case round =>
    clear S2
    obtain ⟨r, hr, rfl, rfl, hS⟩ := hrel
    have HS := Lib.hid hS
    clear hS
    by_cases hlt : r < 248
    · have hdI : decide ((r : Int) < ((X.length : Nat) : Int)) = true := decide_eq_true (by have := HLX.out; omega)
      have hdN : decide (r < X.length) = true := decide_eq_true (by have := HLX.out; omega)
      have ix := idxText (getD_at (X := X) (r := r) (by have := HLX.out; omega))
      have iy := idxText (getD_at (X := Y) (r := r) (by have := HLY.out; omega))
      have HA := Lib.hid (all2_succ mtch X Y r)
      obtain ⟨a, b, ea, eb, hcs⟩ := mtch_cases (X.getD r 0) (Y.getD r 0)
      rw [← ea] at ix
      rw [← eb] at iy
      clear ea eb
      have hlen : r < X.length := by have := HLX.out; omega
      cases hk : (k0 && all2 mtch X Y r)
      · have HK := Lib.hid (show (k0 && all2 mtch X Y (r + 1)) = false by rw [HA.out, ← Bool.and_assoc, hk]; rfl)
        clear hk hcs
        go_wp2_with fail
        go_quiet (fail)
        have S3 := Lib.hid (HasS.below (belowDrewN wr nq) HS.out)
        go_wp2_with fail
        go_roundg (248 - (r + 1))
        case measure => omega
        case rel => exact ⟨r + 1, by omega, by go_num, by rw [HK.out], S3.out⟩
      · rcases hcs with ⟨t1, hm⟩ | ⟨t1, t2, hm⟩ | ⟨t1, t2, hm⟩
        all_goals
          have hkk : (k0 && all2 mtch X Y (r + 1)) = mtch (X.getD r 0) (Y.getD r 0) := by rw [HA.out, ← Bool.and_assoc, hk, Bool.true_and]
          rw [hm] at hkk
          have HK := Lib.hid hkk
          clear hk hm hkk
          go_wp2_with fail
          go_quiet (fail)
          have S3 := Lib.hid (HasS.below (belowDrewN wr nq) HS.out)
          go_wp2_with fail
          go_roundg (248 - (r + 1))
          case measure => omega
          case rel => exact ⟨r + 1, by omega, by go_num, by rw [HK.out], S3.out⟩
    · obtain rfl : r = 248 := by omega
      have hdI : decide ((248 : Int) < ((X.length : Nat) : Int)) = false := decide_eq_false (by have := HLX.out; omega)
      have hlen : ¬ 248 < X.length := by have := HLX.out; omega
      cases hk : (k0 && all2 mtch X Y 248)
      · go_wp2
        go_ret
        exact ⟨ret_bool (by rw [hk]; rfl), HS.out.2.2⟩
      · go_wp2_with (refine loadRowG rfl 25 _ rfl (w.heap.size + 1) rfl 25 (hc h) (0, 0) HS.out.2.1 Tryd.underlying25 rfl (by kernel_rfl) ?_)
        refine (rhead_any h _).mono ?_
        rintro e w3 ⟨rfl, hw3⟩
        go_wp2
        go_ret
        exact ⟨ret_bool (by rw [hk]; rfl), (HasS.below hw3 HS.out).2.2⟩
/-- the rows of the reference's Within -/
def WinS (w : World) (a b : Nat → Int) (W : World) : Prop := Blk w.heap.size (cc a) 30 W ∧ Blk (w.heap.size + 1) (cc b) 30 W ∧ Below w.heap.size w W
theorem WinS.below {w : World} {a b : Nat → Int} {W W' : World} (hb : Below W.heap.size W W') (s : WinS w a b W) : WinS w a b W' := ⟨s.1.below hb, s.2.1.below hb, s.2.2.trans (hb.mono s.2.2.size)⟩
def htcm (x y : UInt8) : Bool := y == 120 || x == y
theorem htcm_cases (x y : UInt8) : ∃ i j : Int, i = (x.toNat : Int) ∧ j = (y.toNat : Int) ∧ (((j == 120) = true ∧ htcm x y = true) ∨ ((j == 120) = false ∧ (i == j) = true ∧ htcm x y = true) ∨ ((j == 120) = false ∧ (i == j) = false ∧ htcm x y = false)) := by
  refine ⟨_, _, rfl, rfl, ?_⟩
  rw [u8_x, u8_eq]
  unfold htcm
  cases y == 120 <;> cases x == y <;> simp
set_option maxHeartbeats 2000000 in
theorem rwithin_of (a b : Nat → Int) (wa : Wf a) (wb : Wf b) (w : World) :
    Calls Tryd.prog 29 #[.agg (cc a), .agg (cc b)] w fun e w' => e = .returned (.bool ((csnd a && all2 htcm (textTo a 12) (textTo b 12) 248) && csnd b)) ∧ Below w.heap.size w w' := by
  have S0 := Lib.hid (show WinS w a b ((w.alloc (.cells (cc a) 30)).alloc (.cells (cc b) 30)) from ⟨(Blk.new w (cc a) 30).old _, Blk.new2 w _ _ _, below2 _ _ _⟩)
  have HT := Lib.hid fun W => rtext_any a wa W
  have HW := Lib.hid fun W => rtext_any b wb W
  have HLX := Lib.hid (text_len a)
  have HLY := Lib.hid (text_len b)
  clear wa wb
  generalize textTo a 12 = X at *
  generalize textTo b 12 = Y at *
  generalize csnd a = k0 at *
  generalize csnd b = k1 at *
  go_enter Tryd.func29, Tryd.ntmps29
  go_wp2_with (refine wpList_load_row rfl 30 _ rfl w.heap.size rfl 30 (cc a) (0, 0) _ S0.out.1 Tryd.underlying30 rfl (by kernel_rfl) ?_)
  refine (HT.out _).mono ?_
  rintro e w1 ⟨rfl, hw1⟩
  have S1 := Lib.hid (WinS.below hw1 S0.out)
  clear hw1 S0 HT
  go_wp2_with (refine wpList_load_row rfl 30 _ rfl (w.heap.size + 1) rfl 30 (cc b) (0, 0) _ S1.out.2.1 Tryd.underlying30 rfl (by kernel_rfl) ?_)
  refine (HW.out _).mono ?_
  rintro e w2 ⟨rfl, hw2⟩
  have S2 := Lib.hid (WinS.below hw2 S1.out)
  clear hw2 S1 HW
  go_wp2_with fail
  go_loopg [9, 6] 248 (fun g i ok wr => ∃ r : Nat, r + g = 248 ∧ i = .int .i64 r ∧ ok = .bool (k0 && all2 htcm X Y r) ∧ WinS w a b wr)
  case atStart => exact ⟨0, by omega, rfl, by rw [all2_zero, Bool.and_true], S2.out⟩
  case round =>
    clear S2
    obtain ⟨r, hr, rfl, rfl, hS⟩ := hrel
    have HS := Lib.hid hS
    clear hS
    by_cases hlt : r < 248
    · have hdI : decide ((r : Int) < ((X.length : Nat) : Int)) = true := decide_eq_true (by have := HLX.out; omega)
      have hdN : decide (r < X.length) = true := decide_eq_true (by have := HLX.out; omega)
      have ix := idxText (getD_at (X := X) (r := r) (by have := HLX.out; omega))
      have iy := idxText (getD_at (X := Y) (r := r) (by have := HLY.out; omega))
      have HA := Lib.hid (all2_succ htcm X Y r)
      obtain ⟨na, nb, ea, eb, hcs⟩ := htcm_cases (X.getD r 0) (Y.getD r 0)
      rw [← ea] at ix
      rw [← eb] at iy
      clear ea eb
      have hlen : r < X.length := by have := HLX.out; omega
      cases hk : (k0 && all2 htcm X Y r)
      · have HK := Lib.hid (show (k0 && all2 htcm X Y (r + 1)) = false by rw [HA.out, ← Bool.and_assoc, hk]; rfl)
        clear hk hcs
        go_wp2_with fail
        go_quiet (fail)
        have S3 := Lib.hid (WinS.below (belowDrewN wr nq) HS.out)
        go_wp2_with fail
        go_roundg (248 - (r + 1))
        case measure => omega
        case rel => exact ⟨r + 1, by omega, by go_num, by rw [HK.out], S3.out⟩
      · rcases hcs with ⟨t1, hm⟩ | ⟨t1, t2, hm⟩ | ⟨t1, t2, hm⟩
        all_goals
          have hkk : (k0 && all2 htcm X Y (r + 1)) = htcm (X.getD r 0) (Y.getD r 0) := by rw [HA.out, ← Bool.and_assoc, hk, Bool.true_and]
          rw [hm] at hkk
          have HK := Lib.hid hkk
          clear hk hm hkk
          go_wp2_with fail
          go_quiet (fail)
          have S3 := Lib.hid (WinS.below (belowDrewN wr nq) HS.out)
          go_wp2_with fail
          go_roundg (248 - (r + 1))
          case measure => omega
          case rel => exact ⟨r + 1, by omega, by go_num, by rw [HK.out], S3.out⟩
    · obtain rfl : r = 248 := by omega
      have hdI : decide ((248 : Int) < ((X.length : Nat) : Int)) = false := decide_eq_false (by have := HLX.out; omega)
      have hlen : ¬ 248 < X.length := by have := HLX.out; omega
      cases hk : (k0 && all2 htcm X Y 248)
      all_goals
        go_wp2
        go_ret
        exact ⟨ret_bool (by rw [hk]; rfl), HS.out.2.2⟩
end Go.Proofs.YtamjaohoicedfaaDoor
