/-
  The walk of the reference's Whole.
-/
import Derived.Test.YtamjaohoicedfaaDoorRefBits
import Derived.Laws.IdiomStrings
namespace Go.Proofs.YtamjaohoicedfaaDoor
open Go.RowKit

/-- bytes as a slice holds them -/
def byteV (l : List UInt8) : List Value := l.map fun c => .int .u8 (c.toNat : Int)
theorem byteV_len (l : List UInt8) : (byteV l).length = l.length := by simp [byteV]
theorem byteV_snoc (l : List UInt8) (c : UInt8) : byteV (l ++ [c]) = byteV l ++ [.int .u8 (c.toNat : Int)] := by simp [byteV]
/-- 'string(b)' of a slice of one's own -/
theorem conv_own {base g n cap : Nat} {l : List UInt8} {W : World} (h : Own1 5 base (.slice (some ⟨g, 0, none⟩) n cap) (byteV l) W) (hn : n = l.length) : (convert 54 9 (.slice (some ⟨g, 0, none⟩) n cap)).run Tryd.prog W = .ok (.string ⟨l.toArray⟩) W := by
  subst hn
  refine run_convert_bytes_back W 54 9 5 ⟨g, 0, none⟩ cap l Tryd.underlying54 Tryd.underlying5 Tryd.underlying9 fun j hj => ?_
  rw [Addr.add_mid, Nat.zero_add]
  exact h.at (by simp [byteV, hj])
/-- a bit as a letter -/
def chB (b : Bool) : UInt8 := if b then 49 else 48
/-- the letters of a field -/
def fieldL (x : Int) (n : Nat) : List UInt8 := (List.range n).map fun k => chB (x.toNat.testBit (n - 1 - k))
/-- the letters of the first fields of a header -/
def wholeTo (h : Nat → Int) : Nat → List UInt8
  | 0 => []
  | r + 1 => wholeTo h r ++ fieldL (h r) (sz r).toNat
theorem fieldL_len (x : Int) (n : Nat) : (fieldL x n).length = n := by simp [fieldL]
theorem fieldL_at (x : Int) (n m : Nat) (h : m < n) : (fieldL x n)[m]? = some (chB (x.toNat.testBit (n - 1 - m))) := by simp [fieldL, h]
theorem take_next8 {l : List UInt8} {m : Nat} {x : UInt8} (h : l[m]? = some x) : l.take (m + 1) = l.take m ++ [x] := by
  rw [List.take_add_one, h]; rfl
theorem wholeTo_len (h : Nat → Int) : ∀ r, (wholeTo h r).length ≤ r * 48
  | 0 => by simp [wholeTo]
  | r + 1 => by
    have := wholeTo_len h r
    have := sz_le r
    rw [wholeTo, List.length_append, fieldL_len]
    omega
theorem sz_pos (r : Nat) (h : r < 12) : 0 < (sz r).toNat := by
  match r, h with
  | 0, _ | 1, _ | 2, _ | 3, _ | 4, _ | 5, _ | 6, _ | 7, _ | 8, _ | 9, _ | 10, _ | 11, _ => decide
  | r + 12, h => exact absurd h (by omega)
/-- a row, and the text so far, lie in memory -/
def TxtS (w : World) (cs : Array Value) (t : TypeId) (out : Value) (l : List UInt8) (W : World) : Prop := Blk w.heap.size cs t W ∧ Own1 5 (w.heap.size + 1) out (byteV l) W ∧ Below w.heap.size w W
section
variable {w : World} {cs : Array Value} {t : TypeId} {out : Value} {l : List UInt8} {W W' : World}
theorem TxtS.below (hb : Below W.heap.size W W') (h : TxtS w cs t out l W) : TxtS w cs t out l W' := ⟨h.1.below hb, h.2.1.below hb, h.2.2.trans (hb.mono h.2.2.size)⟩
theorem TxtS.lt (h : TxtS w cs t out l W) : w.heap.size < W.heap.size := h.1.lt
theorem TxtS.grown {out' : Value} {l' : List UInt8} (h : TxtS w cs t out l W) (hg : W.grownBy W' out.ownBlock) (ho : Own1 5 (w.heap.size + 1) out' (byteV l') W') : TxtS w cs t out' l' W' := by
  have hge := h.2.1.ge
  exact ⟨(hg.block _ h.1.lt fun e => by have := hge _ e.symm; omega).trans h.1, ho, h.2.2.grown hg h.2.2.size fun k e => by have := hge k e; omega⟩
end
set_option maxHeartbeats 1000000 in
theorem rwhole_any (h : Nat → Int) (hh : Wf h) (w : World) :
    Calls Tryd.prog 22 #[.agg (hc h)] w fun e w' => e = .returned (.string ⟨(wholeTo h 12).toArray⟩) ∧ Below w.heap.size w w' := by
  have HH := Lib.hid hh
  have S0 := Lib.hid (show TxtS w (hc h) 25 (.slice none 0 0) [] _ from ⟨Blk.new w (hc h) 25, Own1.nil _ _ _, below1 w _⟩)
  clear hh
  go_enter Tryd.func22, Tryd.ntmps22
  go_wp2
  go_loopg [4, 3] 12 (fun k i out wr => ∃ r : Nat, r + k = 12 ∧ i = .int .i64 r ∧ TxtS w (hc h) 25 out (wholeTo h r) wr)
  case atStart => exact ⟨0, by omega, rfl, S0.out⟩
  case round =>
    clear S0
    obtain ⟨r, hr, rfl, hS⟩ := hrel
    have HS := Lib.hid hS
    clear hS
    by_cases hlt : r < 12
    · have hrI : (r : Int) < 12 := by omega
      have hdI : decide ((r : Int) < 12) = true := decide_eq_true hrI
      obtain ⟨s0, s1⟩ := sz_le r
      have hn0 := sz_pos r hlt
      obtain ⟨n, hn⟩ : ∃ n : Nat, sz r = n := ⟨(sz r).toNat, by omega⟩
      have hnn : (sz r).toNat = n := by omega
      rw [hnn] at hn0
      have HB5 := Lib.hid fun W => rbits_any (h r) (HH.out r) n (by omega) W
      have hn48 : n ≤ 48 := by omega
      have hwl := wholeTo_len h r
      have HNN := Lib.hid hnn
      clear s0 s1 hnn
      go_wp2_with fail
      clear hdI
      refine wp_region_held_drew (S := TxtS w (hc h) 25 u3 (wholeTo h r)) (by kernel_rfl) (TxtS.below (Below.refl _ _).drew HS.out) (fun hS => ?_)
      clear HS
      refine seqRead 0 (v := _) rfl (by kernel_rfl) (by kernel_rfl) (by kernel_rfl) (fun _ _ _ h => h) rfl (fun w hSw => by go_simp <;> with_reducible rfl) hS ?_
      try simp only [Act.put, List.setIfInBounds_toArray, List.set_cons_zero, List.set_cons_succ]
      refine seqRead 1 (v := _) rfl (by kernel_rfl) (by kernel_rfl) (by kernel_rfl) (fun _ _ _ h => h) rfl (fun w hSw => by go_simp <;> with_reducible rfl) hS ?_
      try simp only [Act.put, List.setIfInBounds_toArray, List.set_cons_zero, List.set_cons_succ]
      refine seqRead 2 (v := _) rfl (by kernel_rfl) (by kernel_rfl) (by kernel_rfl) (fun _ _ _ h => h) rfl (fun w hSw => by have hq := cell_row hSw.1 hlt; go_simp <;> with_reducible rfl) hS ?_
      try simp only [Act.put, List.setIfInBounds_toArray, List.set_cons_zero, List.set_cons_succ]
      refine seqRead 3 (v := _) rfl (by kernel_rfl) (by kernel_rfl) (by kernel_rfl) (fun _ _ _ h => h) rfl (fun w hSw => by go_simp <;> with_reducible rfl) hS ?_
      try simp only [Act.put, List.setIfInBounds_toArray, List.set_cons_zero, List.set_cons_succ]
      refine seqCall 4 rfl (by kernel_rfl) rfl (fun K hK => ?_)
      go_simp
      refine (rsize_in r _ hlt).mono ?_
      rintro e v1 ⟨rfl, hv1⟩
      refine hK.out _ _ (TxtS.below hv1 hS) (fun hS => ?_)
      clear hK K
      clear hv1
      try simp only [Act.put, List.setIfInBounds_toArray, List.set_cons_zero, List.set_cons_succ]
      refine seqCall 5 rfl (by kernel_rfl) rfl (fun K hK => ?_)
      go_simp
      refine (HB5.out _).mono ?_
      rintro e v2 ⟨vb, rfl, hob, hv2⟩
      obtain ⟨g, cap, hvb, hg1, hg2⟩ := hob.block (by rw [bitL_len]; exact hn0)
      rw [bitL_len] at hvb
      subst hvb
      have OB := Lib.hid hob
      have GB := Lib.hid hg1
      have OLT := Lib.hid hS.2.1.lt
      refine hK.out _ _ (TxtS.below hv2 hS) (fun hS => ?_)
      clear hK K hob hg1 hg2 hv2
      try simp only [Act.put, List.setIfInBounds_toArray, List.set_cons_zero, List.set_cons_succ]
      refine seqRead 6 (v := _) rfl (by kernel_rfl) (by kernel_rfl) (by kernel_rfl) (fun _ _ _ h => h) rfl (fun w hSw => by go_simp <;> with_reducible rfl) hS ?_
      try simp only [Act.put, List.setIfInBounds_toArray, List.set_cons_zero, List.set_cons_succ]
      refine seqDone (by kernel_rfl) ?_
      have HS := Lib.hid hS
      have NE := Lib.hid (show u3.ownBlock ≠ some g from fun e => by have := (OLT.out g e).2; have := GB.out; omega)
      clear hS OLT GB HB5 hn
      go_wp2_with fail
      go_loopg [6, 3] n (fun kk k out wr => ∃ q : Nat, q + kk = n ∧ k = .int .i64 q ∧ TxtS w (hc h) 25 out (wholeTo h r ++ (fieldL (h r) n).take q) wr ∧ Own1 4 v1.heap.size (.slice (some ⟨g, 0, none⟩) n cap) (bitL (h r) n) wr ∧ out.ownBlock ≠ some g)
      case atStart => exact ⟨0, by omega, rfl, by rw [List.take_zero, List.append_nil]; exact HS.out, OB.out, NE.out⟩
      case round =>
        clear HS OB NE
        obtain ⟨q, hq, rfl, hS, hob, hne⟩ := hrel
        have HS := Lib.hid hS
        have OB1 := Lib.hid hob
        have NE := Lib.hid hne
        clear hS hob hne
        by_cases hqn : q < n
        · have hqI : (q : Int) < (n : Int) := by omega
          have hdQ : decide ((q : Int) < (n : Int)) = true := decide_eq_true hqI
          have hN := take_next8 (fieldL_at (h r) n q hqn)
          have hcell := OB1.out.at (bitL_at (h r) n q hqn)
          have hlen : (byteV (wholeTo h r ++ (fieldL (h r) n).take q)).length ≤ 1000000 := by
            rw [byteV_len, List.length_append, List.length_take, fieldL_len]
            omega
          cases hbit : (h r).toNat.testBit (n - 1 - q)
          · rw [hbit] at hN hcell
            have HN := Lib.hid hN
            clear hN hbit
            have B1 := Lib.hid (Blk.new wr #[.int .u8 48] 5)
            have S1 := Lib.hid (TxtS.below (below1 wr (.cells #[.int .u8 48] 5)) HS.out)
            have hsz : w.heap.size + 1 ≤ (wr.alloc (.cells #[.int .u8 48] 5)).heap.size := S1.out.lt
            go_wp2_with (refine appendOne rfl _ _ 54 Tryd.underlying54 byteCell rfl (w.heap.size + 1) u3 _ (.int .u8 48) rfl S1.out.2.1 wr.heap.size rfl B1.out rfl hsz hlen (fun v' w' ho hg hat => ?_))
            have HO1 := Lib.hid (show Own1 5 (w.heap.size + 1) v' (byteV (wholeTo h r ++ (fieldL (h r) n).take (q + 1))) w' by rw [HN.out, ← List.append_assoc, byteV_snoc]; exact ho)
            have S2 := Lib.hid (S1.out.grown hg HO1.out)
            have OB2 := Lib.hid ((OB1.out.below (below1 wr (.cells #[.int .u8 48] 5))).grown hg (.inr fun e => NE.out e.symm))
            have NE2 := Lib.hid (show v'.ownBlock ≠ some g from fun e => by
              rcases hat with hat | hat
              · rw [hat] at e; exact NE.out e
              · rw [hat] at e; injection e with e
                have := (OB1.out.lt g rfl).2
                simp at e; omega)
            clear ho hg hat HO1 S1 B1 HS OB1 NE
            go_roundg (n - (q + 1))
            case measure => omega
            case rel => exact ⟨q + 1, by omega, by go_num, S2.out, OB2.out, NE2.out⟩
          · rw [hbit] at hN hcell
            have HN := Lib.hid hN
            clear hN hbit
            have B1 := Lib.hid (Blk.new wr #[.int .u8 49] 5)
            have S1 := Lib.hid (TxtS.below (below1 wr (.cells #[.int .u8 49] 5)) HS.out)
            have hsz : w.heap.size + 1 ≤ (wr.alloc (.cells #[.int .u8 49] 5)).heap.size := S1.out.lt
            go_wp2_with (refine appendOne rfl _ _ 54 Tryd.underlying54 byteCell rfl (w.heap.size + 1) u3 _ (.int .u8 49) rfl S1.out.2.1 wr.heap.size rfl B1.out rfl hsz hlen (fun v' w' ho hg hat => ?_))
            have HO1 := Lib.hid (show Own1 5 (w.heap.size + 1) v' (byteV (wholeTo h r ++ (fieldL (h r) n).take (q + 1))) w' by rw [HN.out, ← List.append_assoc, byteV_snoc]; exact ho)
            have S2 := Lib.hid (S1.out.grown hg HO1.out)
            have OB2 := Lib.hid ((OB1.out.below (below1 wr (.cells #[.int .u8 49] 5))).grown hg (.inr fun e => NE.out e.symm))
            have NE2 := Lib.hid (show v'.ownBlock ≠ some g from fun e => by
              rcases hat with hat | hat
              · rw [hat] at e; exact NE.out e
              · rw [hat] at e; injection e with e
                have := (OB1.out.lt g rfl).2
                simp at e; omega)
            clear ho hg hat HO1 S1 B1 HS OB1 NE
            go_roundg (n - (q + 1))
            case measure => omega
            case rel => exact ⟨q + 1, by omega, by go_num, S2.out, OB2.out, NE2.out⟩
        · have hdQ : decide ((q : Int) < (n : Int)) = false := decide_eq_false (by omega)
          have HW := Lib.hid (show wholeTo h (r + 1) = wholeTo h r ++ (fieldL (h r) n).take q by rw [wholeTo, HNN.out, List.take_of_length_le (by rw [fieldL_len]; omega)])
          go_wp2_with fail
          go_roundg (12 - (r + 1))
          case measure => omega
          case rel => exact ⟨r + 1, by omega, by go_num, by rw [HW.out]; exact HS.out⟩
    · obtain rfl : r = 12 := by omega
      have hl0 : 0 < (byteV (wholeTo h 12)).length := by
        rw [byteV_len, wholeTo, List.length_append, fieldL_len]
        have := sz_pos 11 (by omega)
        omega
      obtain ⟨g, cap, hv, _, _⟩ := HS.out.2.1.block hl0
      rw [byteV_len] at hv
      subst hv
      have hcv := conv_own HS.out.2.1 rfl
      go_wp2
      go_ret
      exact ⟨rfl, HS.out.2.2⟩
end Go.Proofs.YtamjaohoicedfaaDoor
