/-
  Bytes compared: bytes.Equal, Same of the reference.
-/
import Derived.Test.YtdcekbmoihmjkaaCodRd
import Derived.Lib.ConvBytes
namespace Go.Proofs.Ytdcekbmoihmjkaa
set_option maxRecDepth 20000
open Go.RowKit

/-- numbers as bytes of a text -/
def u8L (l : List Int) : List UInt8 := l.map fun n => UInt8.ofNat n.toNat
theorem u8_back {n : Int} (h : 0 ≤ n ∧ n < 256) : (((UInt8.ofNat n.toNat).toNat : Nat) : Int) = n := by
  rw [UInt8.toNat_ofNat']
  omega
theorem u8L_inj {l k : List Int} (hl : ByL l) (hk : ByL k) (h : u8L l = u8L k) : l = k := by
  have e : ∀ {x : List Int}, ByL x → (u8L x).map (fun c => ((c.toNat : Nat) : Int)) = x := fun {x} hx => by
    unfold u8L
    rw [List.map_map]
    conv => rhs; rw [← List.map_id x]
    exact List.map_congr_left fun n hn => u8_back (hx n hn)
  rw [← e hl, ← e hk, h]
theorem conv_lies {v : Value} {l : List Int} {W : World} (h : KLies KB v l W) (hb : ByL l) : (convert 22 9 v).run Try.prog W = .ok (.string ⟨(u8L l).toArray⟩) W := by
  rcases h with ⟨rfl, rfl⟩ | ⟨ad, cap, rfl, hcap, hr⟩
  · kernel_rfl
  · have hlen : l.length = (u8L l).length := by simp [u8L]
    rw [hlen]
    refine run_convert_bytes_back W 22 9 5 ad cap (u8L l) Try.underlying22 Try.underlying5 Try.underlying9 fun j hj => ?_
    have hj' : j < l.length := by rw [hlen]; exact hj
    obtain ⟨h1, h2⟩ := hr j _ (List.getElem?_eq_getElem hj')
    obtain ⟨bb, oo, ss⟩ := ad
    have e : ss = none := h1
    subst e
    rw [Addr.add_mid]
    have h3 := h2 0 _ rfl
    have e2 : oo + j * 1 + 0 = oo + j := by omega
    rw [show (⟨bb, oo, none⟩ : Addr).off + j * KB.n + 0 = oo + j from e2] at h3
    rw [h3]
    simp only [u8L, List.getElem_map]
    rw [u8_back (hb _ (List.getElem_mem hj'))]
theorem eq_at {l k : List Int} {r : Nat} {x y : Int} (hl : l[r]? = some x) (hk : k[r]? = some y) (h : x ≠ y) : l ≠ k := fun e => by
  subst e
  rw [hl] at hk
  injection hk with hk
  exact h hk
theorem eq_all {l k : List Int} (hn : l.length = k.length) (h : ∀ (i : Nat) x y, l[i]? = some x → k[i]? = some y → x = y) : l = k := by
  apply List.ext_getElem?
  intro i
  by_cases hi : i < l.length
  · rw [List.getElem?_eq_getElem hi, List.getElem?_eq_getElem (by omega), h i _ _ (List.getElem?_eq_getElem hi) (List.getElem?_eq_getElem (by omega))]
  · rw [List.getElem?_eq_none (by omega), List.getElem?_eq_none (by omega)]
set_option maxHeartbeats 2000000 in
theorem rsameB_any (v1 v2 : Value) (l k : List Int) (hlen : l.length ≤ 1000000000) (w : World) (h1 : KLies KB v1 l w) (h2 : KLies KB v2 k w) :
    Calls Try.prog 12 #[v1, v2] w fun e w' => e = .returned (.bool (decide (l = k))) ∧ Below w.heap.size w w' := by
  obtain ⟨p1, c1, rfl⟩ := h1.form
  obtain ⟨p2, c2, rfl⟩ := h2.form
  have HS := Lib.hid (show KLies KB (.slice p1 l.length c1) l w ∧ KLies KB (.slice p2 k.length c2) k w ∧ Below w.heap.size w w from ⟨h1, h2, Below.refl _ _⟩)
  clear h1 h2
  obtain ⟨y, hy⟩ : ∃ y, y = decide (l = k) := ⟨_, rfl⟩
  rw [← hy]
  have HY := Lib.hid hy
  clear hy
  by_cases hn : l.length = k.length
  rotate_left
  · have hnI : (((l.length : Nat) : Int) != ((k.length : Nat) : Int)) = true := by simp; omega
    go_enter Try.func12, Try.ntmps12
    go_wp2_with fail
    go_ret
    exact ⟨ret_bool (by rw [HY.out, decide_eq_false]; intro e; exact hn (by rw [e])), HS.out.2.2⟩
  have HN := Lib.hid hn
  rw [← hn] at HS
  have hnI : (((l.length : Nat) : Int) != ((l.length : Nat) : Int)) = false := by simp
  obtain ⟨N, hN⟩ : ∃ N, N = l.length := ⟨_, rfl⟩
  rw [← hn]
  rw [← hN] at HS hnI ⊢
  have HNl := Lib.hid hN
  have hNI : N ≤ 1000000000 := by rw [hN]; exact hlen
  clear hn hN hlen
  go_enter Try.func12, Try.ntmps12
  go_wp2_with fail
  go_loopg [5] N (fun q s5 wr => ∃ r : Nat, r + q = N ∧ s5 = .int .i64 r ∧ (∀ (i : Nat) x y, i < r → l[i]? = some x → k[i]? = some y → x = y) ∧ KLies KB (.slice p1 N c1) l wr ∧ KLies KB (.slice p2 N c2) k wr ∧ Below w.heap.size w wr)
  case atStart => exact ⟨0, by omega, rfl, fun i x y h => by omega, HS.out⟩
  case round =>
    obtain ⟨r, hr, rfl, ha, hs⟩ := hrel
    have HT := Lib.hid hs
    have HA := Lib.hid ha
    clear hs HS ha
    by_cases hlt : r < N
    · have hltI : (r : Int) < (N : Int) := by omega
      obtain ⟨x, hx⟩ := lt_some (l := l) (i := r) (by rw [← HNl.out]; exact hlt)
      obtain ⟨z, hz⟩ := lt_some (l := k) (i := r) (by rw [← HN.out, ← HNl.out]; exact hlt)
      obtain ⟨b1, o1, rfl, ka⟩ := cellB HT.out.1 hx
      obtain ⟨b2, o2, rfl, kb⟩ := cellB HT.out.2.1 hz
      have HX := Lib.hid hx
      have HZ := Lib.hid hz
      clear hx hz
      by_cases hxz : x = z
      · subst hxz
        go_upto_region 6 with fail
        go_quiet (fail)
        have HB := Lib.hid (belowDrewN wr nq)
        have HT1 := Lib.hid (show KLies KB (.slice (some ⟨b1, o1, none⟩) N c1) l (wr.drewN nq) ∧ KLies KB (.slice (some ⟨b2, o2, none⟩) N c2) k (wr.drewN nq) ∧ Below w.heap.size w (wr.drewN nq) from ⟨HT.out.1.below okB HB.out, HT.out.2.1.below okB HB.out, HT.out.2.2.trans (HB.out.mono HT.out.2.2.size)⟩)
        clear HT HB ka kb
        generalize wr.drewN nq = W at *
        go_wp2_with fail
        go_roundg (N - (r + 1))
        case measure => omega
        case rel =>
          refine ⟨r + 1, by omega, by go_num, fun i a c hi h1 h2 => ?_, HT1.out⟩
          by_cases e : i = r
          · subst e
            rw [HX.out] at h1
            rw [HZ.out] at h2
            injection h1 with h1
            injection h2 with h2
            rw [← h1, ← h2]
          · exact HA.out i a c (by omega) h1 h2
      · have hxd : (x != z) = true := by simpa using hxz
        have HXZ := Lib.hid hxz
        clear hxz
        go_upto_region 6 with fail
        go_quiet (fail)
        have HB := Lib.hid (belowDrewN wr nq)
        have HB1 := Lib.hid (HT.out.2.2.trans (HB.out.mono HT.out.2.2.size))
        clear HT HB ka kb
        generalize wr.drewN nq = W at *
        go_wp2_with fail
        go_ret
        exact ⟨ret_bool (by rw [HY.out, decide_eq_false]; exact eq_at HX.out HZ.out HXZ.out), HB1.out⟩
    · have hltI : ¬ (r : Int) < (N : Int) := by omega
      obtain rfl : r = N := by omega
      go_wp2_with fail
      go_ret
      refine ⟨ret_bool (by rw [HY.out, decide_eq_true]; exact eq_all HN.out fun i x y h1 h2 => HA.out i x y (by rw [HNl.out]; exact (List.getElem?_eq_some_iff.1 h1).1) h1 h2), HT.out.2.2⟩
end Go.Proofs.Ytdcekbmoihmjkaa
