/-
  The walk of the reference's From, at the text of a sound cube.
-/
import Derived.Test.YtioiecaklbifnaaDoorRefMath
namespace Go.Proofs.YtioiecaklbifnaaDoor
open Go.RowKit

/-- s[i] of a text -/
theorem idxText {X : List UInt8} {p : Nat} {ch : UInt8} (h : X[p]? = some ch) (w : World) : (Instr.index 9 (.string ⟨X.toArray⟩) (.int .i64 p)).run Tryd.prog w = .ok (.int .u8 (ch.toNat : Int)) w := by
  have hp : p < X.length := (List.getElem?_eq_some_iff.1 h).1
  have he : X[p] = ch := (List.getElem?_eq_some_iff.1 h).2
  have hs : (⟨X.toArray⟩ : ByteArray).size = X.length := by show X.toArray.size = X.length; simp
  have hg : (⟨X.toArray⟩ : ByteArray)[p]'(by rw [hs]; exact hp) = ch := by show X.toArray[p]'(by simpa using hp) = ch; simpa using he
  go_simp
theorem cell_setCell_ne {W : World} {g i j : Nat} (v : Value) (h : i ≠ j) : (W.setCell ⟨g, i, none⟩ v).cell? ⟨g, j, none⟩ = W.cell? ⟨g, j, none⟩ := by
  simp only [World.setCell, World.cell?]
  cases hb : W.heap[g]? with
  | none => simp [Array.getElem?_modify, hb]
  | some o => cases o <;> simp [Array.getElem?_modify, hb, h]
/-- the highest bits of a number of so many -/
def topB (x : Int) (n k : Nat) : Int := x / 2 ^ (n - k)
theorem topB_zero {x : Int} {n : Nat} (h0 : 0 ≤ x) (h : x.toNat < 2 ^ n) : topB x n 0 = 0 := by
  unfold topB
  rw [Nat.sub_zero]
  obtain ⟨m, rfl⟩ := Int.eq_ofNat_of_zero_le h0
  exact Int.ediv_eq_zero_of_lt (by omega) (by exact_mod_cast h)
theorem topB_all (x : Int) (n : Nat) : topB x n n = x := by unfold topB; simp
theorem topB_step {x : Int} (h0 : 0 ≤ x) (n k : Nat) (hk : k < n) : topB x n (k + 1) = topB x n k * 2 + (if x.toNat.testBit (n - 1 - k) then 1 else 0) := by
  obtain ⟨m, rfl⟩ := Int.eq_ofNat_of_zero_le h0
  unfold topB
  rw [Int.toNat_natCast, show n - (k + 1) = n - 1 - k by omega, show n - k = n - 1 - k + 1 by omega]
  generalize n - 1 - k = t
  have e1 : (2 : Int) ^ t = ((2 ^ t : Nat) : Int) := by push_cast; rfl
  have e2 : (2 : Int) ^ (t + 1) = ((2 ^ (t + 1) : Nat) : Int) := by push_cast; rfl
  rw [e1, e2, ← Int.natCast_ediv, ← Int.natCast_ediv, Nat.testBit_eq_decide_div_mod_eq, Nat.pow_succ, ← Nat.div_div_eq_div_mul]
  generalize m / 2 ^ t = q
  by_cases h : q % 2 = 1
  · rw [decide_eq_true h, if_pos rfl]; omega
  · rw [decide_eq_false h, if_neg (by decide)]; omega
theorem topB_small {x : Int} (h0 : 0 ≤ x) (n k : Nat) (h : x.toNat < 2 ^ n) (hn : n ≤ 48) : 0 ≤ topB x n k ∧ topB x n k < 281474976710656 := by
  obtain ⟨m, rfl⟩ := Int.eq_ofNat_of_zero_le h0
  unfold topB
  have e1 : (2 : Int) ^ (n - k) = ((2 ^ (n - k) : Nat) : Int) := by push_cast; rfl
  rw [Int.toNat_natCast] at h
  have h48 : m < 281474976710656 := Nat.lt_of_lt_of_le h (by have := Nat.pow_le_pow_right (show 0 < 2 by decide) hn; simpa using this)
  rw [e1, ← Int.natCast_ediv]
  have := Nat.div_le_self m (2 ^ (n - k))
  generalize m / 2 ^ (n - k) = q at *
  omega
/-- the field of a number of a cube -/
def fld (j : Nat) : Nat := if j < 12 then j else j - 12
theorem fld_val {r : Nat} (h : r < 12) : fld r = r := if_pos h
theorem fld_care (r : Nat) : fld (12 + r) = r := by unfold fld; rw [if_neg (by omega)]; omega
theorem fld_cases {j : Nat} (hj : j < 24) : fld j < 12 ∧ (j = fld j ∨ j = 12 + fld j) := by unfold fld; split <;> omega
/-- a cube as far as it is read: the first fields whole, so many bits of the next -/
def fromTo (c : Nat → Int) (r k : Nat) : Nat → Int := fun j => if fld j < r then c j else if fld j = r then topB (c j) (sz r).toNat k else 0
theorem fromTo_val (c : Nat → Int) {r : Nat} (k : Nat) (hr : r < 12) : fromTo c r k r = topB (c r) (sz r).toNat k := by
  unfold fromTo; rw [fld_val hr, if_neg (by omega), if_pos rfl]
theorem fromTo_care (c : Nat → Int) (r k : Nat) : fromTo c r k (12 + r) = topB (c (12 + r)) (sz r).toNat k := by
  unfold fromTo; rw [fld_care, if_neg (by omega), if_pos rfl]
theorem fromTo_step (c : Nat → Int) {r k : Nat} (hr : r < 12) {tv tc : Int} (hv : topB (c r) (sz r).toNat (k + 1) = tv) (hc : topB (c (12 + r)) (sz r).toNat (k + 1) = tc) : upd (upd (fromTo c r k) (12 + r) tc) r tv = fromTo c r (k + 1) := by
  funext j
  unfold upd
  by_cases e1 : j = r
  · subst e1; rw [if_pos rfl, fromTo_val c (k + 1) hr, hv]
  · rw [if_neg e1]
    by_cases e2 : j = 12 + r
    · subst e2; rw [if_pos rfl, fromTo_care c r (k + 1), hc]
    · rw [if_neg e2]
      unfold fromTo
      have : fld j ≠ r := by unfold fld; split <;> omega
      rw [if_neg this, if_neg this]
/-- are all values of a cube within their fields? -/
def Fit24 (c : Nat → Int) : Prop := ∀ j, j < 12 → fitB j (c j) = true ∧ fitB j (c (12 + j)) = true
theorem fromTo_next (c : Nat → Int) (hc : Wf c) (hf : Fit24 c) (r : Nat) : cc (fromTo c r (sz r).toNat) = cc (fromTo c (r + 1) 0) := by
  refine cc_ext (cc_size _) fun j hj => ?_
  rw [cc_at _ j hj]
  unfold fromTo
  obtain ⟨q12, qj⟩ := fld_cases hj
  generalize fld j = q at *
  by_cases h1 : q < r
  · rw [if_pos h1, if_pos (by omega)]
  · by_cases h2 : q = r
    · rw [if_neg h1, if_pos h2, if_pos (by omega), topB_all]
    · rw [if_neg h1, if_neg h2, if_neg (by omega)]
      by_cases h3 : q = r + 1
      · rw [if_pos h3, topB_zero (hc j).1]
        have := hf q q12
        rw [fit_nat q _ (hc q).1, fit_nat q _ (hc (12 + q)).1] at this
        rw [← h3]
        rcases qj with e | e
        · rw [e]; exact this.1
        · rw [e]; exact this.2
      · rw [if_neg h3]
theorem fromTo_start (c : Nat → Int) (hc : Wf c) (hf : Fit24 c) : cc (fromTo c 0 0) = cc zh := by
  refine cc_ext (cc_size _) fun j hj => ?_
  rw [cc_at _ j hj]
  unfold fromTo zh
  obtain ⟨_, qj⟩ := fld_cases hj
  generalize fld j = q at *
  rw [if_neg (by omega)]
  by_cases h3 : q = 0
  · rw [if_pos h3, topB_zero (hc j).1]
    have := hf 0 (by omega)
    rw [fit_nat 0 _ (hc 0).1, fit_nat 0 _ (hc (12 + 0)).1] at this
    subst h3
    rcases qj with e | e
    · rw [e]; exact this.1
    · rw [e]; exact this.2
  · rw [if_neg h3]
theorem fromTo_end (c : Nat → Int) : cc (fromTo c 12 0) = cc c := by
  refine cc_ext (cc_size _) fun j hj => ?_
  rw [cc_at _ j hj]
  unfold fromTo
  rw [if_pos (fld_cases hj).1]
/-- the rows of From -/
def FromS (w : World) (f : Nat → Int) (W : World) : Prop := Blk w.heap.size #[Value.int IntKind.u64 0, Value.int IntKind.u64 0, Value.int IntKind.u64 0, Value.int IntKind.u64 0, Value.int IntKind.u64 0, Value.int IntKind.u64 0, Value.int IntKind.u64 0, Value.int IntKind.u64 0, Value.int IntKind.u64 0, Value.int IntKind.u64 0, Value.int IntKind.u64 0, Value.int IntKind.u64 0, Value.int IntKind.u64 0, Value.int IntKind.u64 0, Value.int IntKind.u64 0, Value.int IntKind.u64 0, Value.int IntKind.u64 0, Value.int IntKind.u64 0, Value.int IntKind.u64 0, Value.int IntKind.u64 0, Value.int IntKind.u64 0, Value.int IntKind.u64 0, Value.int IntKind.u64 0, Value.int IntKind.u64 0] 26 W ∧ Blk (w.heap.size + 1) (cc f) 26 W ∧ Below w.heap.size w W
theorem FromS.below {w : World} {f : Nat → Int} {W W' : World} (hb : Below W.heap.size W W') (h : FromS w f W) : FromS w f W' := ⟨h.1.below hb, h.2.1.below hb, h.2.2.trans (hb.mono h.2.2.size)⟩
theorem FromS.set {w : World} {f : Nat → Int} {W : World} (h : FromS w f W) {k : Nat} (hk : k < 24) (x : Int) : FromS w (upd f k x) (W.setCell ⟨w.heap.size + 1, k, none⟩ (.int .u64 x)) :=
  ⟨h.1.cother (by omega) _, h.2.1.cset hk x, h.2.2.setCell (by show w.heap.size ≤ w.heap.size + 1; omega) _⟩
theorem upd_twice (f : Nat → Int) (k : Nat) (x y : Int) : upd (upd f k x) k y = upd f k y := by funext j; unfold upd; split <;> rfl
theorem upd_swap (f : Nat → Int) {i k : Nat} (h : i ≠ k) (x y : Int) : upd (upd f i x) k y = upd (upd f k y) i x := by
  funext j; unfold upd
  by_cases e1 : j = k
  · subst e1; rw [if_pos rfl, if_neg (Ne.symm h), if_pos rfl]
  · rw [if_neg e1]
    by_cases e2 : j = i
    · rw [if_pos e2, if_pos e2]
    · rw [if_neg e2, if_neg e2, if_neg e1]
set_option maxHeartbeats 2000000 in
theorem rfrom_text (c : Nat → Int) (hc : Wf c) (hf : Fit24 c) (hvc : ∀ j, j < 12 → ∀ t, bitAt c j t = true → bitAt c (12 + j) t = true) (w : World) :
    Calls Tryd.prog 38 #[.string ⟨(textTo c 12).toArray⟩] w fun e w' => e = .returned (.agg (cc c)) ∧ Below w.heap.size w w' := by
  have S0 := Lib.hid (show FromS w (fromTo c 0 0) ((w.alloc (.cells #[Value.int IntKind.u64 0, Value.int IntKind.u64 0, Value.int IntKind.u64 0, Value.int IntKind.u64 0, Value.int IntKind.u64 0, Value.int IntKind.u64 0, Value.int IntKind.u64 0, Value.int IntKind.u64 0, Value.int IntKind.u64 0, Value.int IntKind.u64 0, Value.int IntKind.u64 0, Value.int IntKind.u64 0, Value.int IntKind.u64 0, Value.int IntKind.u64 0, Value.int IntKind.u64 0, Value.int IntKind.u64 0, Value.int IntKind.u64 0, Value.int IntKind.u64 0, Value.int IntKind.u64 0, Value.int IntKind.u64 0, Value.int IntKind.u64 0, Value.int IntKind.u64 0, Value.int IntKind.u64 0, Value.int IntKind.u64 0] 26)).alloc (.cells #[Value.int IntKind.u64 0, Value.int IntKind.u64 0, Value.int IntKind.u64 0, Value.int IntKind.u64 0, Value.int IntKind.u64 0, Value.int IntKind.u64 0, Value.int IntKind.u64 0, Value.int IntKind.u64 0, Value.int IntKind.u64 0, Value.int IntKind.u64 0, Value.int IntKind.u64 0, Value.int IntKind.u64 0, Value.int IntKind.u64 0, Value.int IntKind.u64 0, Value.int IntKind.u64 0, Value.int IntKind.u64 0, Value.int IntKind.u64 0, Value.int IntKind.u64 0, Value.int IntKind.u64 0, Value.int IntKind.u64 0, Value.int IntKind.u64 0, Value.int IntKind.u64 0, Value.int IntKind.u64 0, Value.int IntKind.u64 0] 26)) from
    ⟨(Blk.new w #[Value.int IntKind.u64 0, Value.int IntKind.u64 0, Value.int IntKind.u64 0, Value.int IntKind.u64 0, Value.int IntKind.u64 0, Value.int IntKind.u64 0, Value.int IntKind.u64 0, Value.int IntKind.u64 0, Value.int IntKind.u64 0, Value.int IntKind.u64 0, Value.int IntKind.u64 0, Value.int IntKind.u64 0, Value.int IntKind.u64 0, Value.int IntKind.u64 0, Value.int IntKind.u64 0, Value.int IntKind.u64 0, Value.int IntKind.u64 0, Value.int IntKind.u64 0, Value.int IntKind.u64 0, Value.int IntKind.u64 0, Value.int IntKind.u64 0, Value.int IntKind.u64 0, Value.int IntKind.u64 0, Value.int IntKind.u64 0] 26).old _, by rw [fromTo_start c hc hf]; exact Blk.new2 w _ _ _, below2 _ _ _⟩)
  have HC := Lib.hid hc
  have HF := Lib.hid hf
  have HV := Lib.hid hvc
  have HT := Lib.hid fun q k (hq : q < 12) (hk : k < (sz q).toNat) => textTo_at c hk 12 hq
  have HL := Lib.hid (text_len c)
  have HE := Lib.hid (fromTo_end c)
  clear hc hf hvc
  generalize textTo c 12 = X at *
  go_enter Tryd.func38, Tryd.ntmps38
  go_wp2
  go_loopg [5, 4] 12 (fun g i at_ wr => ∃ r : Nat, r + g = 12 ∧ i = .int .i64 r ∧ at_ = .int .i64 (offF r) ∧ FromS w (fromTo c r 0) wr)
  case atStart => exact ⟨0, by omega, rfl, rfl, S0.out⟩
  case round =>
    clear S0
    obtain ⟨r, hr, rfl, rfl, hS⟩ := hrel
    have HS := Lib.hid hS
    clear hS
    by_cases hlt : r < 12
    · have hrI : (r : Int) < 12 := by omega
      have hdI : decide ((r : Int) < 12) = true := decide_eq_true hrI
      obtain ⟨s0, s1⟩ := sz_le r
      obtain ⟨n, hn⟩ : ∃ n : Nat, sz r = n := ⟨(sz r).toNat, by omega⟩
      have hnn : (sz r).toNat = n := by omega
      have HSZ := Lib.hid fun W => rsize_in r W hlt
      rw [hn] at HSZ
      have HNN := Lib.hid hnn
      have hn48 : n ≤ 48 := by omega
      have HNX := Lib.hid (fromTo_next c HC.out HF.out r)
      rw [hnn] at HNX
      have HOF := Lib.hid (show offF (r + 1) = offF r + n by rw [offF, hnn])
      clear s0 s1 hnn hn
      go_wp2_with fail
      go_loopg [6, 4] n (fun g k at_ wr => ∃ q p : Nat, q + g = n ∧ k = .int .i64 q ∧ at_ = .int .i64 p ∧ p = offF r + q ∧ FromS w (fromTo c r q) wr)
      case atStart => exact ⟨0, offF r, by omega, rfl, rfl, rfl, HS.out⟩
      case round =>
        clear HS hdI
        obtain ⟨q, p, hq, rfl, rfl, hp, hS⟩ := hrel
        have HS := Lib.hid hS
        have HP := Lib.hid hp
        clear hS hp
        go_wp2_with fail
        refine (HSZ.out _).mono ?_
        rintro e w1 ⟨rfl, hw1⟩
        have HS1 := Lib.hid (FromS.below hw1 HS.out)
        clear hw1 HS
        by_cases hqn : q < n
        · have hdQ : decide ((q : Int) < (n : Int)) = true := decide_eq_true (by omega)
          have fb := HF.out r hlt
          rw [fit_nat r _ (HC.out r).1, fit_nat r _ (HC.out (12 + r)).1, HNN.out] at fb
          have bv := topB_small (HC.out r).1 n q fb.1 hn48
          have bc := topB_small (HC.out (12 + r)).1 n q fb.2 hn48
          have sv := topB_step (HC.out r).1 n q hqn
          have sc := topB_step (HC.out (12 + r)).1 n q hqn
          have k1 := (cellC HS1.out.2.1 (show r < 24 by omega)).trans (by rw [fromTo_val c q hlt, HNN.out])
          have HFS := Lib.hid fun (tv tc : Int) (e1 : topB (c r) n (q + 1) = tv) (e2 : topB (c (12 + r)) n (q + 1) = tc) => fromTo_step c (k := q) hlt (tv := tv) (tc := tc) (by rw [HNN.out]; exact e1) (by rw [HNN.out]; exact e2)
          have f1 := frozen_of_row _ (w.heap.size + 1) r _ _ HS1.out.2.1
          have hkc := (cellC HS1.out.2.1 (show 12 + r < 24 by omega)).trans (by rw [fromTo_care c r q, HNN.out])
          have hch := HT.out r q hlt (by rw [HNN.out]; exact hqn)
          rw [← HP.out] at hch
          unfold letT at hch
          rw [HNN.out] at hch
          have hvb := HV.out r hlt (n - 1 - q)
          unfold bitAt at hvb
          clear fb
          generalize topB (c r) n q = tv at *
          generalize topB (c (12 + r)) n q = tc at *
          have S2 := Lib.hid ((HS1.out.set (show r < 24 by omega) (tv * 2)).set (show 12 + r < 24 by omega) (tc * 2))
          have k2 : (w1.setCell ⟨w.heap.size + 1, r, none⟩ (.int .u64 (tv * 2))).cell? ⟨w.heap.size + 1, 12 + r, none⟩ = some (.int .u64 tc) := (cell_setCell_ne _ (by omega)).trans hkc
          have f2 := frozen_of_row _ (w.heap.size + 1) (12 + r) _ _ (HS1.out.set (show r < 24 by omega) (tv * 2)).2.1
          clear hkc
          have hp248 : (p : Int) < 248 := by
            have h1 := offF_mono (show r + 1 ≤ 12 by omega)
            rw [HOF.out, offF_12] at h1
            have := HP.out
            omega
          go_upto_region 11 with (fail)
          have k3 := (cellC S2.out.2.1 (show 12 + r < 24 by omega)).trans (by rw [upd_eq])
          have f3 := frozen_of_row _ (w.heap.size + 1) (12 + r) _ _ S2.out.2.1
          have S3 := Lib.hid (S2.out.set (show 12 + r < 24 by omega) (tc * 2 + 1))
          rw [upd_twice] at S3
          clear k1 k2 f1 f2 HS1
          generalize (w1.setCell ⟨w.heap.size + 1, r, none⟩ (.int .u64 (tv * 2))).setCell ⟨w.heap.size + 1, 12 + r, none⟩ (.int .u64 (tc * 2)) = W2 at *
          rcases ch_cases ((c r).toNat.testBit (n - 1 - q)) ((c (12 + r)).toNat.testBit (n - 1 - q)) with ⟨e1, e2⟩ | ⟨e0, e1, e2⟩ | ⟨e0, e1, e2⟩
          · rw [e2] at hch
            have hix := idxText hch
            rw [show ((120 : UInt8).toNat : Int) = 120 from rfl] at hix
            have e0 : (c r).toNat.testBit (n - 1 - q) = false := by
              cases e : (c r).toNat.testBit (n - 1 - q)
              · rfl
              · rw [hvb e] at e1; cases e1
            rw [e0, if_neg (by decide), Int.add_zero] at sv
            rw [e1, if_neg (by decide), Int.add_zero] at sc
            have HN := Lib.hid (HFS.out _ _ sv sc)
            clear hch e0 e1 e2 sv sc hvb HFS
            go_wp2
            have S5 := Lib.hid (show FromS w (fromTo c r (q + 1)) W2 by rw [← HN.out, ← upd_swap _ (show r ≠ 12 + r by omega)]; exact S2.out)
            clear k3 f3 hix S2 S3
            go_roundg (n - (q + 1))
            case measure => omega
            case rel => exact ⟨q + 1, p + 1, by omega, by go_num, by go_num, by rw [HP.out]; omega, S5.out⟩
          · rw [e2] at hch
            have hix := idxText hch
            rw [show ((49 : UInt8).toNat : Int) = 49 from rfl] at hix
            rw [e0, if_pos rfl] at sv
            rw [e1, if_pos rfl] at sc
            have HN := Lib.hid (HFS.out _ _ sv sc)
            clear hch e0 e1 e2 sv sc hvb HFS
            go_upto_region 13 with (fail)
            clear k3 f3
            generalize W2.setCell ⟨w.heap.size + 1, 12 + r, none⟩ (.int .u64 (tc * 2 + 1)) = W3 at *
            have k4 := (cellC S3.out.2.1 (show r < 24 by omega)).trans (by rw [upd_ne _ _ (show r ≠ 12 + r by omega), upd_eq])
            have f4 := frozen_of_row _ (w.heap.size + 1) r _ _ S3.out.2.1
            have S4 := Lib.hid (S3.out.set (show r < 24 by omega) (tv * 2 + 1))
            rw [upd_swap _ (show r ≠ 12 + r by omega), upd_twice, HN.out] at S4
            go_wp2
            clear k4 f4 hix S2 S3
            go_roundg (n - (q + 1))
            case measure => omega
            case rel => exact ⟨q + 1, p + 1, by omega, by go_num, by go_num, by rw [HP.out]; omega, S4.out⟩
          · rw [e2] at hch
            have hix := idxText hch
            rw [show ((48 : UInt8).toNat : Int) = 48 from rfl] at hix
            rw [e0, if_neg (by decide), Int.add_zero] at sv
            rw [e1, if_pos rfl] at sc
            have HN := Lib.hid (HFS.out _ _ sv sc)
            clear hch e0 e1 e2 sv sc hvb HFS
            rw [upd_swap _ (show r ≠ 12 + r by omega), HN.out] at S3
            go_wp2
            clear k3 f3 hix S2
            go_roundg (n - (q + 1))
            case measure => omega
            case rel => exact ⟨q + 1, p + 1, by omega, by go_num, by go_num, by rw [HP.out]; omega, S3.out⟩
        · have hdQ : decide ((q : Int) < (n : Int)) = false := decide_eq_false (by omega)
          obtain rfl : q = n := by omega
          have S2 := Lib.hid (show FromS w (fromTo c (r + 1) 0) w1 from ⟨HS1.out.1, by rw [← HNX.out]; exact HS1.out.2.1, HS1.out.2.2⟩)
          go_wp2_with fail
          go_roundg (12 - (r + 1))
          case measure => omega
          case rel => exact ⟨r + 1, by omega, by go_num, by rw [HP.out, HOF.out], S2.out⟩
    · obtain rfl : r = 12 := by omega
      go_wp2_with (first
        | (refine wpList_load_row rfl 26 _ rfl (w.heap.size + 1) rfl 26 (cc (fromTo c 12 0)) (0, 0) _ HS.out.2.1 Tryd.underlying26 rfl (by kernel_rfl) ?_)
        | (refine wpList_store_row rfl 26 _ _ rfl w.heap.size (cc (fromTo c 12 0)) rfl rfl 26 _ HS.out.1 (by kernel_rfl) rfl (cc_one _) ?_))
      refine bodyPost_ret (v := .agg (cc (fromTo c 12 0))) ?_ rfl ⟨by rw [HE.out], below_setRow HS.out.2.2 (by omega) _⟩
      exact res_one Tryd.results38 rfl (HS.out.1.rset _) Tryd.underlying26 rfl (by kernel_rfl)
end Go.Proofs.YtioiecaklbifnaaDoor
