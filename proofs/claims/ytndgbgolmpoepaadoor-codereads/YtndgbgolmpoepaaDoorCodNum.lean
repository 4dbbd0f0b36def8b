/-
  The reference's Num: a number in so many bytes.
-/
import Derived.Test.YtndgbgolmpoepaaDoorCodWrb
namespace Go.Proofs.YtndgbgolmpoepaaDoor
set_option maxRecDepth 20000
open Go.RowKit

theorem numB_head : ∀ (r : Nat) (n : Int), numB (r + 1) n = (n / 2 ^ (8 * r) % 256) :: numB r n
  | 0, n => by show [] ++ [n % 256] = _; simp [numB]
  | r + 1, n => by
    rw [numB, numB_head r (n / 256), numB, List.cons_append]
    congr 2
    rw [Int.ediv_ediv_of_nonneg (by decide), show 8 * (r + 1) = 8 + 8 * r by omega, Int.pow_add]
    rfl
/-- the last bytes are laid -/
def NumS (g s : Nat) (l : List Int) (W : World) : Prop := ∃ cur : Array Value, Blk g cur 5 W ∧ cur.size = s ∧ l.length ≤ s ∧ ∀ (j : Nat) x, l[j]? = some x → cur[(s - l.length) + j]? = some (.int .u8 x)
theorem NumS.put {g s : Nat} {l : List Int} {W : World} (h : NumS g s l W) {k : Nat} (hk : k + 1 + l.length = s) (x : Int) : NumS g s (x :: l) (W.setCell ⟨g, k, none⟩ (.int .u8 x)) := by
  obtain ⟨cur, hB, hs, hl, hc⟩ := h
  refine ⟨cur.setIfInBounds k (.int .u8 x), hB.one (k := k) _, by rw [Array.size_setIfInBounds]; exact hs, by simp; omega, fun j y hj => ?_⟩
  rw [Array.getElem?_setIfInBounds]
  cases j with
  | zero =>
    simp only [List.getElem?_cons_zero, Option.some.injEq] at hj
    subst hj
    rw [if_pos (by simp; omega), if_pos (by omega)]
  | succ j =>
    have hj' : l[j]? = some y := by simpa using hj
    have := hc j y hj'
    rw [if_neg (by simp; omega), show s - (x :: l).length + (j + 1) = s - l.length + j by simp; omega]
    exact this
theorem NumS.owns {g s : Nat} {l : List Int} {W : World} (h : NumS g s l W) (hl : l.length = s) (hs : s ≤ 8) {base : Nat} (hb : base ≤ g) : KOwns KB base (.slice (some ⟨g, 0, none⟩) s s) l W := by
  obtain ⟨cur, hB, hc, _, ha⟩ := h
  subst hl
  refine KAt.owns okB (show KAt KB g l.length l W from ⟨Nat.le_refl _, by unfold maxLen; omega, cur, hB, (by rw [hc]; exact (Nat.mul_one _).symm), fun i a hi j u hu => ?_⟩) hb
  have hj : j = 0 := by
    have := (List.getElem?_eq_some_iff.1 hu).1
    simpa using this
  subst hj
  have hu' : Value.int .u8 a = u := by simpa using hu
  have := ha i a hi
  rw [Nat.sub_self, Nat.zero_add] at this
  rw [show i * 1 + 0 = i by omega, this, hu']
set_option maxHeartbeats 4000000 in
theorem num_any (n : Int) (h0 : 0 ≤ n) (h1 : n < 18446744073709551616) (s : Nat) (hs8 : s ≤ 8) (w : World) :
    Calls Tryd.prog 32 #[.int .u64 n, .int .i64 (s : Int)] w (OwnRet KB w (numB s n)) := by
  have H0 := Lib.hid (And.intro h0 h1)
  clear h0 h1
  go_enter Tryd.func32, Tryd.ntmps32
  go_wp2_with (refine kmake KB okB rfl _ _ rfl s rfl rfl (by omega) (fun w1 hk hb hlt => ?_); refine Hid.out ?_)
  obtain ⟨_, _, cur, hcur, hsz, _⟩ := hk
  have HN := Lib.hid (show NumS w.heap.size s (numB 0 n) w1 from ⟨cur, hcur, (by rw [hsz]; exact Nat.mul_one _), by show 0 ≤ s; omega, fun j x hj => by simp [numB] at hj⟩)
  have HB := Lib.hid hb
  clear hcur hsz hb hlt
  refine Lib.hid ?_
  go_wp2_with fail
  go_loopg [6, 0] s (fun q k nn wr => ∃ r : Nat, r + q = s ∧ k = .int .i64 ((q : Int) - 1) ∧ nn = .int .u64 (n / 2 ^ (8 * r)) ∧ NumS w.heap.size s (numB r n) wr ∧ Below w.heap.size w wr)
  case atStart => exact ⟨0, by omega, by go_num, by simp, HN.out, HB.out⟩
  case round =>
    clear HN HB
    obtain ⟨r, hr, rfl, rfl, hn, hb⟩ := hrel
    have HN := Lib.hid hn
    have HB := Lib.hid hb
    clear hn hb
    by_cases hq : gk = 0
    · subst hq
      go_wp2_with fail
      go_ret
      obtain rfl : r = s := by omega
      exact ⟨_, rfl, HN.out.owns (numB_len _ _) hs8 (Nat.le_refl _), HB.out⟩
    obtain ⟨t, rfl⟩ : ∃ t, gk = t + 1 := ⟨gk - 1, by omega⟩
    have e : ((t + 1 : Nat) : Int) - 1 = (t : Int) := by omega
    rw [e] at *
    have ht0 : (0 : Int) ≤ (t : Int) := by omega
    have hts : (t : Int) < (s : Int) := by omega
    have HD := Lib.hid (show n / 2 ^ (8 * r) / 256 = n / 2 ^ (8 * (r + 1)) from (sh_succ n r).symm)
    have HH := Lib.hid (numB_head r n)
    have hM0 : 0 ≤ n / 2 ^ (8 * r) := Int.ediv_nonneg H0.out.1 (by exact_mod_cast Nat.zero_le _)
    have hM1 : n / 2 ^ (8 * r) < 18446744073709551616 := by
      have := Int.ediv_le_self (2 ^ (8 * r)) H0.out.1
      have := H0.out.2
      omega
    generalize n / 2 ^ (8 * r) = M at *
    obtain ⟨cur, hcur, hsz, _⟩ := HN.out
    have HT := Lib.hid (show wr.there w.heap.size t 1 from Blk.there hcur (by rw [hsz]; omega))
    have hmod : M % 256 < 256 := by omega
    clear hcur hsz
    go_wp2_with (refine storeCell rfl 5 _ _ rfl w.heap.size t (.int .u8 (M % 256)) rfl rfl rfl HT.out (by kernel_rfl) ?_; refine Hid.out ?_)
    have HN1 := Lib.hid (show NumS w.heap.size s (numB (r + 1) n) (wr.setCell ⟨w.heap.size, t, none⟩ (.int .u8 (M % 256))) by rw [HH.out]; exact HN.out.put (by rw [numB_len]; omega) _)
    have HB1 := Lib.hid (HB.out.setCell (Nat.le_refl _) (.int .u8 (M % 256)) (p := ⟨w.heap.size, t, none⟩))
    clear HN HB HT
    generalize wr.setCell ⟨w.heap.size, t, none⟩ (.int .u8 (M % 256)) = W1 at *
    refine Lib.hid ?_
    go_wp2_with fail
    go_roundg t
    case measure => omega
    case rel => exact ⟨r + 1, by omega, by go_num, by rw [← HD.out], HN1.out, HB1.out⟩
end Go.Proofs.YtndgbgolmpoepaaDoor
