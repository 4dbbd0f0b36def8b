/-
  The walk of the reference's Text, and of its Cube.
-/
import Derived.Test.YtamjaohoicedfaaDoorRefWhole
import Derived.Deep.DeepCutAuto
namespace Go.Proofs.YtamjaohoicedfaaDoor
open Go.RowKit

/-- a bit of a cube as a letter: its value, is it fixed? -/
def chT (v k : Bool) : UInt8 := if k then (if v then 49 else 48) else 120
theorem ch_cases (v k : Bool) : (k = false ∧ chT v k = 120) ∨ (v = true ∧ k = true ∧ chT v k = 49) ∨ (v = false ∧ k = true ∧ chT v k = 48) := by cases v <;> cases k <;> decide
/-- the letters of a field of a cube -/
def fieldT (x y : Int) (n : Nat) : List UInt8 := (List.range n).map fun k => chT (x.toNat.testBit (n - 1 - k)) (y.toNat.testBit (n - 1 - k))
theorem fieldT_len (x y : Int) (n : Nat) : (fieldT x y n).length = n := by simp [fieldT]
theorem fieldT_at (x y : Int) (n m : Nat) (h : m < n) : (fieldT x y n)[m]? = some (chT (x.toNat.testBit (n - 1 - m)) (y.toNat.testBit (n - 1 - m))) := by simp [fieldT, h]
/-- the letters of the first fields of a cube -/
def textTo (c : Nat → Int) : Nat → List UInt8
  | 0 => []
  | r + 1 => textTo c r ++ fieldT (c r) (c (12 + r)) (sz r).toNat
theorem textTo_len (c : Nat → Int) : ∀ r, (textTo c r).length ≤ r * 48
  | 0 => by simp [textTo]
  | r + 1 => by
    have := textTo_len c r
    have := sz_le r
    rw [textTo, List.length_append, fieldT_len]
    omega
/-- are the first fields sound? -/
def okTo (c : Nat → Int) : Nat → Bool
  | 0 => sndB (care c)
  | r + 1 => okTo c r && !overB c r
theorem okTo_zero (c : Nat → Int) : okTo c 0 = sndB (care c) := rfl
theorem okTo_succ (c : Nat → Int) (r : Nat) : okTo c (r + 1) = (okTo c r && !overB c r) := rfl
theorem ne_next {v v' : Value} {g H : Nat} (hat : v'.ownBlock = v.ownBlock ∨ v'.ownBlock = some H) (hne : v.ownBlock ≠ some g) (hg : g < H) : v'.ownBlock ≠ some g := fun e => by
  rcases hat with h | h
  · rw [h] at e; exact hne e
  · rw [h] at e; injection e with e; omega
set_option maxHeartbeats 2000000 in
theorem rtext_of (c : Nat → Int) (hh : Wf c) (w : World) :
    Calls Tryd.prog 21 #[.agg (cc c)] w fun e w' => e = .returned (.tuple #[.string ⟨(textTo c 12).toArray⟩, .bool (okTo c 12)]) ∧ Below w.heap.size w w' := by
  have HH := Lib.hid hh
  have S0 := Lib.hid (show TxtS w (cc c) 30 (.slice none 0 0) [] _ from ⟨Blk.new w (cc c) 30, Own1.nil _ _ _, below1 w _⟩)
  clear hh
  go_enter Tryd.func21, Tryd.ntmps21
  go_wp2_with (refine wpList_load_mid rfl 25 _ rfl w.heap.size 12 rfl (hl (care c)) _ (careR S0.out.1) Tryd.underlying25 rfl infoHead ?_)
  refine (rhead_any (care c) _).mono ?_
  rintro e w1 ⟨rfl, hw1⟩
  have S1 := Lib.hid (TxtS.below hw1 S0.out)
  clear hw1 S0
  have OK0 := Lib.hid (okTo_zero c)
  generalize sndB (care c) = k0 at *
  go_wp2_with fail
  go_loopg [6, 4, 5] 12 (fun k i out ok wr => ∃ r : Nat, r + k = 12 ∧ i = .int .i64 r ∧ ok = .bool (okTo c r) ∧ TxtS w (cc c) 30 out (textTo c r) wr)
  case atStart => exact ⟨0, by omega, rfl, by rw [OK0.out], S1.out⟩
  case round =>
    clear S1 OK0
    obtain ⟨r, hr, rfl, rfl, hS⟩ := hrel
    have HS := Lib.hid hS
    clear hS
    by_cases hlt : r < 12
    · have hrI : (r : Int) < 12 := by omega
      have hdI : decide ((r : Int) < 12) = true := decide_eq_true hrI
      obtain ⟨s0, s1⟩ := sz_le r
      have hn0 := sz_pos r hlt
      obtain ⟨n, hn⟩ : ∃ n : Nat, sz r = n := ⟨(sz r).toNat, by omega⟩
      have hnn : (sz r).toNat = n := by omega
      rw [hnn] at hn0
      have HBV := Lib.hid fun W => rbits_any (c r) (HH.out r) n (by omega) W
      have HBC := Lib.hid fun W => rbits_any (c (12 + r)) (HH.out (12 + r)) n (by omega) W
      have hn48 : n ≤ 48 := by omega
      have hwl := textTo_len c r
      have HNN := Lib.hid hnn
      have HOK := Lib.hid (okTo_succ c r)
      clear s0 s1 hnn
      have k1 := cellC HS.out.1 (show 12 + r < 24 by omega)
      have k2 := cellC HS.out.1 (show r < 24 by omega)
      go_upto_region 6 with (fail)
      go_quiet (fail)
      clear k1 k2 hdI
      have HS1 := Lib.hid (TxtS.below (belowDrewN wr nq) HS.out)
      clear HS
      generalize wr.drewN nq = W1 at *
      have hov : (bits .andNot .u64 (c r) (c (12 + r)) != 0) = overB c r := rfl
      rw [hov]
      clear hov
      go_upto_if 26 with (fail)
      go_cut [5] (fun ok W => ok = .bool (okTo c (r + 1)) ∧ TxtS w (cc c) 30 u4 (textTo c r) W)
      case first =>
        cases ho : overB c r
        · rw [ho] at HOK
          have HK := Lib.hid (show okTo c (r + 1) = okTo c r by rw [HOK.out]; simp)
          go_wp2_with fail
          go_meet
          case rel => exact ⟨by rw [HK.out], HS1.out⟩
        · rw [ho] at HOK
          have HK := Lib.hid (show okTo c (r + 1) = false by rw [HOK.out]; simp)
          go_wp2_with fail
          go_meet
          case rel => exact ⟨by rw [HK.out], HS1.out⟩
      case rest =>
        clear HS1 HOK
        obtain ⟨rfl, hS0⟩ := hcut
        go_wp2_with fail
        refine wp_region_held_drew (S := TxtS w (cc c) 30 u4 (textTo c r)) (by kernel_rfl) (TxtS.below (Below.refl _ _).drew hS0) (fun hS => ?_)
        clear hS0
        refine seqRead 0 (v := _) rfl (by kernel_rfl) (by kernel_rfl) (by kernel_rfl) (fun _ _ _ h => h) rfl (fun w hSw => by go_simp <;> with_reducible rfl) hS ?_
        try simp only [Act.put, List.setIfInBounds_toArray, List.set_cons_zero, List.set_cons_succ]
        refine seqRead 1 (v := _) rfl (by kernel_rfl) (by kernel_rfl) (by kernel_rfl) (fun _ _ _ h => h) rfl (fun w hSw => by go_simp <;> with_reducible rfl) hS ?_
        try simp only [Act.put, List.setIfInBounds_toArray, List.set_cons_zero, List.set_cons_succ]
        refine seqRead 2 (v := _) rfl (by kernel_rfl) (by kernel_rfl) (by kernel_rfl) (fun _ _ _ h => h) rfl (fun w hSw => by go_simp <;> with_reducible rfl) hS ?_
        try simp only [Act.put, List.setIfInBounds_toArray, List.set_cons_zero, List.set_cons_succ]
        refine seqRead 3 (v := _) rfl (by kernel_rfl) (by kernel_rfl) (by kernel_rfl) (fun _ _ _ h => h) rfl (fun w hSw => by have hq := cellC hSw.1 (show r < 24 by omega); go_simp <;> with_reducible rfl) hS ?_
        try simp only [Act.put, List.setIfInBounds_toArray, List.set_cons_zero, List.set_cons_succ]
        refine seqRead 4 (v := _) rfl (by kernel_rfl) (by kernel_rfl) (by kernel_rfl) (fun _ _ _ h => h) rfl (fun w hSw => by go_simp <;> with_reducible rfl) hS ?_
        try simp only [Act.put, List.setIfInBounds_toArray, List.set_cons_zero, List.set_cons_succ]
        refine seqRead 7 (v := _) rfl (by kernel_rfl) (by kernel_rfl) (by kernel_rfl) (fun _ _ _ h => h) rfl (fun w hSw => by go_simp <;> with_reducible rfl) hS ?_
        try simp only [Act.put, List.setIfInBounds_toArray, List.set_cons_zero, List.set_cons_succ]
        refine seqRead 8 (v := _) rfl (by kernel_rfl) (by kernel_rfl) (by kernel_rfl) (fun _ _ _ h => h) rfl (fun w hSw => by go_simp <;> with_reducible rfl) hS ?_
        try simp only [Act.put, List.setIfInBounds_toArray, List.set_cons_zero, List.set_cons_succ]
        refine seqRead 9 (v := _) rfl (by kernel_rfl) (by kernel_rfl) (by kernel_rfl) (fun _ _ _ h => h) rfl (fun w hSw => by go_simp <;> with_reducible rfl) hS ?_
        try simp only [Act.put, List.setIfInBounds_toArray, List.set_cons_zero, List.set_cons_succ]
        refine seqRead 10 (v := _) rfl (by kernel_rfl) (by kernel_rfl) (by kernel_rfl) (fun _ _ _ h => h) rfl (fun w hSw => by have hq := cellC hSw.1 (show 12 + r < 24 by omega); go_simp <;> with_reducible rfl) hS ?_
        try simp only [Act.put, List.setIfInBounds_toArray, List.set_cons_zero, List.set_cons_succ]
        refine seqRead 11 (v := _) rfl (by kernel_rfl) (by kernel_rfl) (by kernel_rfl) (fun _ _ _ h => h) rfl (fun w hSw => by go_simp <;> with_reducible rfl) hS ?_
        try simp only [Act.put, List.setIfInBounds_toArray, List.set_cons_zero, List.set_cons_succ]
        refine seqCall 5 rfl (by kernel_rfl) rfl (fun K hK => ?_)
        go_simp
        refine (rsize_in r _ hlt).mono ?_
        rintro e v1 ⟨rfl, hv1⟩
        refine hK.out _ _ (TxtS.below hv1 hS) (fun hS => ?_)
        clear hK K
        clear hv1
        try simp only [Act.put, List.setIfInBounds_toArray, List.set_cons_zero, List.set_cons_succ]
        refine seqCall 6 rfl (by kernel_rfl) rfl (fun K hK => ?_)
        go_simp
        refine (HBV.out _).mono ?_
        rintro e v2 ⟨vb, rfl, hob, hv2⟩
        obtain ⟨ga, capa, hvb, hg1, hg2⟩ := hob.block (by rw [bitL_len]; exact hn0)
        rw [bitL_len] at hvb
        subst hvb
        have OA := Lib.hid hob
        have GOA := Lib.hid hg1
        have OLTOA := Lib.hid hS.2.1.lt
        refine hK.out _ _ (TxtS.below hv2 hS) (fun hS => ?_)
        clear hK K hob hg1 hg2 hv2
        try simp only [Act.put, List.setIfInBounds_toArray, List.set_cons_zero, List.set_cons_succ]
        refine seqCall 12 rfl (by kernel_rfl) rfl (fun K hK => ?_)
        go_simp
        refine (rsize_in r _ hlt).mono ?_
        rintro e v3 ⟨rfl, hv3⟩
        refine hK.out _ _ (TxtS.below hv3 hS) (fun hS => ?_)
        clear hK K
        have OA := Lib.hid (OA.out.below hv3)
        clear hv3
        try simp only [Act.put, List.setIfInBounds_toArray, List.set_cons_zero, List.set_cons_succ]
        refine seqCall 13 rfl (by kernel_rfl) rfl (fun K hK => ?_)
        go_simp
        refine (HBC.out _).mono ?_
        rintro e v4 ⟨vb, rfl, hob, hv4⟩
        obtain ⟨gb, capb, hvb, hg1, hg2⟩ := hob.block (by rw [bitL_len]; exact hn0)
        rw [bitL_len] at hvb
        subst hvb
        have OB := Lib.hid hob
        have GOB := Lib.hid hg1
        have OLTOB := Lib.hid hS.2.1.lt
        have OA := Lib.hid (OA.out.below hv4)
        refine hK.out _ _ (TxtS.below hv4 hS) (fun hS => ?_)
        clear hK K hob hg1 hg2 hv4
        try simp only [Act.put, List.setIfInBounds_toArray, List.set_cons_zero, List.set_cons_succ]
        refine seqRead 14 (v := _) rfl (by kernel_rfl) (by kernel_rfl) (by kernel_rfl) (fun _ _ _ h => h) rfl (fun w hSw => by go_simp <;> with_reducible rfl) hS ?_
        try simp only [Act.put, List.setIfInBounds_toArray, List.set_cons_zero, List.set_cons_succ]
        refine seqRead 15 (v := _) rfl (by kernel_rfl) (by kernel_rfl) (by kernel_rfl) (fun _ _ _ h => h) rfl (fun w hSw => by go_simp <;> with_reducible rfl) hS ?_
        try simp only [Act.put, List.setIfInBounds_toArray, List.set_cons_zero, List.set_cons_succ]
        refine seqDone (by kernel_rfl) ?_
        have HS := Lib.hid hS
        have NA := Lib.hid (show u4.ownBlock ≠ some ga from fun e => by have := (OLTOA.out ga e).2; have := GOA.out; omega)
        have NB := Lib.hid (show u4.ownBlock ≠ some gb from fun e => by have := (OLTOB.out gb e).2; have := GOB.out; omega)
        clear hS OLTOA GOA OLTOB GOB HBV HBC hn
        go_wp2_with fail
        go_loopg [9, 4] n (fun kk k out wr => ∃ q : Nat, q + kk = n ∧ k = .int .i64 q ∧ TxtS w (cc c) 30 out (textTo c r ++ (fieldT (c r) (c (12 + r)) n).take q) wr ∧ Own1 4 v1.heap.size (.slice (some ⟨ga, 0, none⟩) n capa) (bitL (c r) n) wr ∧ Own1 4 v3.heap.size (.slice (some ⟨gb, 0, none⟩) n capb) (bitL (c (12 + r)) n) wr ∧ out.ownBlock ≠ some ga ∧ out.ownBlock ≠ some gb)
        case atStart => exact ⟨0, by omega, rfl, by rw [List.take_zero, List.append_nil]; exact HS.out, OA.out, OB.out, NA.out, NB.out⟩
        case round =>
          clear HS OA OB NA NB
          obtain ⟨q, hq, rfl, hS, hoa, hob, hna, hnb⟩ := hrel
          have HS := Lib.hid hS
          have OA1 := Lib.hid hoa
          have OB1 := Lib.hid hob
          have NA := Lib.hid hna
          have NB := Lib.hid hnb
          clear hS hoa hob hna hnb
          by_cases hqn : q < n
          · have hqI : (q : Int) < (n : Int) := by omega
            have hdQ : decide ((q : Int) < (n : Int)) = true := decide_eq_true hqI
            have hN := take_next8 (fieldT_at (c r) (c (12 + r)) n q hqn)
            have ca := OA1.out.at (bitL_at (c r) n q hqn)
            have cb := OB1.out.at (bitL_at (c (12 + r)) n q hqn)
            have hlen : (byteV (textTo c r ++ (fieldT (c r) (c (12 + r)) n).take q)).length ≤ 1000000 := by
              rw [byteV_len, List.length_append, List.length_take, fieldT_len]
              omega
            rcases ch_cases ((c r).toNat.testBit (n - 1 - q)) ((c (12 + r)).toNat.testBit (n - 1 - q)) with ⟨e1, e2⟩ | ⟨e0, e1, e2⟩ | ⟨e0, e1, e2⟩
            · rw [e2] at hN
              rw [e1] at cb
              have HN := Lib.hid hN
              clear hN e1 e2 ca
              have B1 := Lib.hid (Blk.new wr #[.int .u8 120] 5)
              have S1 := Lib.hid (TxtS.below (below1 wr (.cells #[.int .u8 120] 5)) HS.out)
              have hsz : w.heap.size + 1 ≤ (wr.alloc (.cells #[.int .u8 120] 5)).heap.size := S1.out.lt
              go_wp2_with (refine appendOne rfl _ _ 54 Tryd.underlying54 byteCell rfl (w.heap.size + 1) u4 _ (.int .u8 120) rfl S1.out.2.1 wr.heap.size rfl B1.out rfl hsz hlen (fun v' w' ho hg hat => ?_))
              have HO1 := Lib.hid (show Own1 5 (w.heap.size + 1) v' (byteV (textTo c r ++ (fieldT (c r) (c (12 + r)) n).take (q + 1))) w' by rw [HN.out, ← List.append_assoc, byteV_snoc]; exact ho)
              have S2 := Lib.hid (S1.out.grown hg HO1.out)
              have OA2 := Lib.hid ((OA1.out.below (below1 wr (.cells #[.int .u8 120] 5))).grown hg (.inr fun e => NA.out e.symm))
              have OB2 := Lib.hid ((OB1.out.below (below1 wr (.cells #[.int .u8 120] 5))).grown hg (.inr fun e => NB.out e.symm))
              have NA2 := Lib.hid (ne_next hat NA.out (by have := (OA1.out.lt ga rfl).2; simp; omega))
              have NB2 := Lib.hid (ne_next hat NB.out (by have := (OB1.out.lt gb rfl).2; simp; omega))
              clear ho hg hat HO1 S1 B1 HS OA1 OB1 NA NB
              go_roundg (n - (q + 1))
              case measure => omega
              case rel => exact ⟨q + 1, by omega, by go_num, S2.out, OA2.out, OB2.out, NA2.out, NB2.out⟩
            · rw [e2] at hN
              rw [e1] at cb
              rw [e0] at ca
              have HN := Lib.hid hN
              clear hN e0 e1 e2
              have B1 := Lib.hid (Blk.new wr #[.int .u8 49] 5)
              have S1 := Lib.hid (TxtS.below (below1 wr (.cells #[.int .u8 49] 5)) HS.out)
              have hsz : w.heap.size + 1 ≤ (wr.alloc (.cells #[.int .u8 49] 5)).heap.size := S1.out.lt
              go_wp2_with (refine appendOne rfl _ _ 54 Tryd.underlying54 byteCell rfl (w.heap.size + 1) u4 _ (.int .u8 49) rfl S1.out.2.1 wr.heap.size rfl B1.out rfl hsz hlen (fun v' w' ho hg hat => ?_))
              have HO1 := Lib.hid (show Own1 5 (w.heap.size + 1) v' (byteV (textTo c r ++ (fieldT (c r) (c (12 + r)) n).take (q + 1))) w' by rw [HN.out, ← List.append_assoc, byteV_snoc]; exact ho)
              have S2 := Lib.hid (S1.out.grown hg HO1.out)
              have OA2 := Lib.hid ((OA1.out.below (below1 wr (.cells #[.int .u8 49] 5))).grown hg (.inr fun e => NA.out e.symm))
              have OB2 := Lib.hid ((OB1.out.below (below1 wr (.cells #[.int .u8 49] 5))).grown hg (.inr fun e => NB.out e.symm))
              have NA2 := Lib.hid (ne_next hat NA.out (by have := (OA1.out.lt ga rfl).2; simp; omega))
              have NB2 := Lib.hid (ne_next hat NB.out (by have := (OB1.out.lt gb rfl).2; simp; omega))
              clear ho hg hat HO1 S1 B1 HS OA1 OB1 NA NB
              go_roundg (n - (q + 1))
              case measure => omega
              case rel => exact ⟨q + 1, by omega, by go_num, S2.out, OA2.out, OB2.out, NA2.out, NB2.out⟩
            · rw [e2] at hN
              rw [e1] at cb
              rw [e0] at ca
              have HN := Lib.hid hN
              clear hN e0 e1 e2
              have B1 := Lib.hid (Blk.new wr #[.int .u8 48] 5)
              have S1 := Lib.hid (TxtS.below (below1 wr (.cells #[.int .u8 48] 5)) HS.out)
              have hsz : w.heap.size + 1 ≤ (wr.alloc (.cells #[.int .u8 48] 5)).heap.size := S1.out.lt
              go_wp2_with (refine appendOne rfl _ _ 54 Tryd.underlying54 byteCell rfl (w.heap.size + 1) u4 _ (.int .u8 48) rfl S1.out.2.1 wr.heap.size rfl B1.out rfl hsz hlen (fun v' w' ho hg hat => ?_))
              have HO1 := Lib.hid (show Own1 5 (w.heap.size + 1) v' (byteV (textTo c r ++ (fieldT (c r) (c (12 + r)) n).take (q + 1))) w' by rw [HN.out, ← List.append_assoc, byteV_snoc]; exact ho)
              have S2 := Lib.hid (S1.out.grown hg HO1.out)
              have OA2 := Lib.hid ((OA1.out.below (below1 wr (.cells #[.int .u8 48] 5))).grown hg (.inr fun e => NA.out e.symm))
              have OB2 := Lib.hid ((OB1.out.below (below1 wr (.cells #[.int .u8 48] 5))).grown hg (.inr fun e => NB.out e.symm))
              have NA2 := Lib.hid (ne_next hat NA.out (by have := (OA1.out.lt ga rfl).2; simp; omega))
              have NB2 := Lib.hid (ne_next hat NB.out (by have := (OB1.out.lt gb rfl).2; simp; omega))
              clear ho hg hat HO1 S1 B1 HS OA1 OB1 NA NB
              go_roundg (n - (q + 1))
              case measure => omega
              case rel => exact ⟨q + 1, by omega, by go_num, S2.out, OA2.out, OB2.out, NA2.out, NB2.out⟩
          · have hdQ : decide ((q : Int) < (n : Int)) = false := decide_eq_false (by omega)
            have HW := Lib.hid (show textTo c (r + 1) = textTo c r ++ (fieldT (c r) (c (12 + r)) n).take q by rw [textTo, HNN.out, List.take_of_length_le (by rw [fieldT_len]; omega)])
            go_wp2_with fail
            go_roundg (12 - (r + 1))
            case measure => omega
            case rel => exact ⟨r + 1, by omega, by go_num, rfl, by rw [HW.out]; exact HS.out⟩
    · obtain rfl : r = 12 := by omega
      have hl0 : 0 < (byteV (textTo c 12)).length := by
        rw [byteV_len, textTo, List.length_append, fieldT_len]
        have := sz_pos 11 (by omega)
        omega
      obtain ⟨g, cap, hv, _, _⟩ := HS.out.2.1.block hl0
      rw [byteV_len] at hv
      subst hv
      have hcv := conv_own HS.out.2.1 rfl
      go_wp2
      go_ret2
      exact ⟨rfl, HS.out.2.2⟩
end Go.Proofs.YtamjaohoicedfaaDoor
