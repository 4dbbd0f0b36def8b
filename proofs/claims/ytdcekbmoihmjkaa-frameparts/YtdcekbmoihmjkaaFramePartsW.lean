/-
  The walk of the law FrameParts.
-/
import Derived.Test.YtdcekbmoihmjkaaFrmPts
namespace Go.Proofs.Ytdcekbmoihmjkaa
set_option maxRecDepth 20000
open Go.RowKit

set_option maxRecDepth 100000 in
set_option maxHeartbeats 16000000 in
theorem frameParts_in (v u : Value) (l ps : List Int) (hb : ByL l) (hp : ByL ps) (w : World) (hl : KLies KB v l w) (hs : KLies KB u ps w) (hn : l.length ≤ 3000) (hm0 : ps.length ≠ 0) (hm1 : ps.length ≤ 100) :
    Calls Try.prog 4 #[v, u] w fun e w' => e = .returned (.bool true) ∧ Below w.heap.size w w' := by
  obtain ⟨p, c, rfl⟩ := hl.form
  obtain ⟨pp, pc, rfl⟩ := hs.form
  have HL := Lib.hid hl
  have HP := Lib.hid hs
  have HBY := Lib.hid hb
  have HPY := Lib.hid hp
  clear hl hs hb hp
  have HcapL := Lib.hid HL.out.capLe
  obtain ⟨n, hnn⟩ : ∃ n, n = l.length := ⟨_, rfl⟩
  obtain ⟨np, hpp⟩ : ∃ np, np = ps.length := ⟨_, rfl⟩
  rw [← hnn] at HL HcapL hn ⊢
  rw [← hpp] at HP hm0 hm1 ⊢
  have HN := Lib.hid hnn
  have HNP := Lib.hid hpp
  clear hnn hpp
  have HB3 := Lib.hid hn
  have HM := Lib.hid (And.intro hm0 hm1)
  have g1 : ¬ (3000 : Int) < (n : Int) := by omega
  have g2 : ((np : Int) == 0) = false := by simpa using hm0
  have g3 : ¬ (100 : Int) < (np : Int) := by omega
  clear hn hm0 hm1
  have HC0 := Lib.hid (fnew_any w)
  go_enter Try.func4, Try.ntmps4
  go_wp2_with (go_at_call 9; refine HC0.out.mono ?_; rintro e W0 ⟨rfl, hr, hb⟩; refine Hid.out ?_)
  obtain ⟨b, hbb⟩ : ∃ b, b = w.heap.size := ⟨_, rfl⟩
  rw [← hbb] at hr
  rw [← hbb]
  have HS0 := Lib.hid (show FpS w b (.slice none 0 0) [] false (.slice none 0 0) [] W0 from ⟨hr, KTail.nil _ _ _, fun g hg => (by cases hg), hb, Nat.le_of_eq hbb.symm⟩)
  clear hbb hr hb HC0 g1 g2 g3
  refine Lib.hid ?_
  go_wp2_with fail
  go_loopg [6, 7, 8, 9] n (fun s vw bd a8 a9 wr => ∃ (at_ i : Nat) (vr : Value) (q : List Int) (bad : Bool), at_ + s = n ∧ a8 = .int .i64 at_ ∧ a9 = .int .i64 i ∧ i ≤ at_ ∧ bd = .bool bad ∧ FpS w b vr q bad vw q wr ∧ q.length ≤ at_ ∧ ByL q)
  case atStart => exact ⟨0, 0, _, [], false, by omega, rfl, rfl, Nat.le_refl _, rfl, HS0.out, Nat.le_refl _, fun x hx => (by cases hx)⟩
  case round =>
    clear HS0
    obtain ⟨at_, i, vr, q, bad, hat, rfl, rfl, hi, rfl, hS, hq, hqb⟩ := hrel
    obtain ⟨pw, cw, rfl⟩ := hS.2.1.form
    have HS := Lib.hid hS
    have HQ := Lib.hid (And.intro hq hqb)
    have HA := Lib.hid (And.intro hat hi)
    clear hS hq hqb
    by_cases hlt : at_ < n
    rotate_left
    · have hltI : ¬ (at_ : Int) < (n : Int) := by omega
      have HAN := Lib.hid (answers10 wr)
      generalize q.length = mq at *
      clear hat hi hlt
      go_wp2_with (go_at_call 8; refine HAN.out.mono ?_; rintro e W1 ⟨rfl, hb⟩)
      go_ret
      exact ⟨rfl, HS.out.old.trans (hb.mono HS.out.old.size)⟩
    have hltI : (at_ : Int) < (n : Int) := by omega
    have HLT := Lib.hid hlt
    clear hlt
    obtain ⟨r, hr⟩ : ∃ r : Nat, (r : Int) = (i : Int) % (np : Int) := ⟨((i : Int) % (np : Int)).toNat, by have := HM.out.1; have := Int.emod_nonneg (i : Int) (show (np : Int) ≠ 0 by omega); omega⟩
    have hrN : r < np := by have := HM.out.1; have := Int.emod_lt_of_pos (i : Int) (show (0 : Int) < (np : Int) by omega); omega
    have hrm : (i : Int) % (np : Int) = (r : Int) := hr.symm
    have hM0 : (0 : Int) < (np : Int) := by omega
    have hne : ¬ ((np : Int) = 0) := by omega
    have hi0 : (0 : Int) ≤ (i : Int) := by omega
    have hi1 : (i : Int) < 100000 := by have := HB3.out; omega
    have hrI : (r : Int) < (np : Int) := by omega
    clear hr
    obtain ⟨x, hx⟩ := lt_some (l := ps) (i := r) (by rw [← HNP.out]; exact hrN)
    have hxb := HPY.out x (List.mem_of_getElem? hx)
    obtain ⟨y, hy⟩ : ∃ y : Nat, x = (y : Int) := ⟨x.toNat, by omega⟩
    subst hy
    obtain ⟨bp, op, rfl, kx⟩ := cellB (HP.out.below okB HS.out.old) hx
    have hy1 : (y : Int) < 256 := hxb.2
    clear hx hxb hat hi
    have hat1 : (at_ : Int) < 3000 := by have := HB3.out; have := HLT.out; omega
    generalize hmq : q.length = mq at *
    have HMQ := Lib.hid hmq
    clear hmq
    clear hi0
    go_upto_region 11 with fail
    obtain ⟨z, hz⟩ : ∃ z : Nat, (z : Int) = (at_ : Int) + (y : Int) + 1 := ⟨at_ + y + 1, by omega⟩
    rw [← hz]
    have HZ := Lib.hid (show at_ < z by omega)
    clear hz hrm hM0 hne hi1 hrI kx hy1 hat1 hltI hrN
    go_upto_if 53 with fail
    go_cut [10] (fun s10 W => ∃ e : Nat, s10 = .int .i64 (e : Int) ∧ at_ < e ∧ e ≤ n ∧ wr = W)
    case first =>
      by_cases hzn : n < z
      · have hznI : (n : Int) < (z : Int) := by omega
        go_wp2_with fail
        go_meet
        case rel => exact ⟨n, rfl, HLT.out, Nat.le_refl _, rfl⟩
      · have hznI : ¬ (n : Int) < (z : Int) := by omega
        go_wp2_with fail
        go_meet
        case rel => exact ⟨z, rfl, HZ.out, Nat.le_of_not_lt hzn, rfl⟩
    case rest =>
      obtain ⟨e, rfl, he, hen, rfl⟩ := hcut
      have HE := Lib.hid (And.intro he hen)
      obtain ⟨k1, hk1⟩ : ∃ k1, k1 = (l.drop at_).take (e - at_) := ⟨_, rfl⟩
      have HK1 := Lib.hid (show KLies KB (.slice (midP p c at_) (e - at_) (c - at_)) k1 (wr.alloc (.cells #[] KB.T)) from by
        have h := HL.out
        rw [HN.out] at h
        rw [hk1]
        exact ((lies_mid h (Nat.le_of_lt he) (by rw [← HN.out]; exact hen)).below okB HS.out.old).below okB (below1 _ _))
      have HKA := Lib.hid (show KLies KB (.slice (midP p c at_) (e - at_) (c - at_)) k1 w from by
        have h := HL.out
        rw [HN.out] at h
        rw [hk1]
        exact lies_mid h (Nat.le_of_lt he) (by rw [← HN.out]; exact hen))
      have HKL := Lib.hid (show k1.length = e - at_ by rw [hk1, List.length_take, List.length_drop, ← HN.out]; omega)
      have HKB := Lib.hid (show ByL k1 by rw [hk1]; exact (HBY.out.drop _).take _)
      have HKN := Lib.hid (show k1 ≠ [] from fun h0 => by have := HKL.out; rw [h0] at this; simp at this; omega)
      have hae : at_ ≤ e := Nat.le_of_lt he
      have hec : e ≤ c := Nat.le_trans hen HcapL.out
      clear HZ he hen hk1
      go_wp2_with (first
        | (refine kbuildNone KB okB rfl rfl ?_)
        | (refine wpMidB rfl _ _ _ rfl p n c at_ e rfl rfl rfl hae hec ?_)
        | (refine kappendB KB okB rfl _ _ rfl wr.heap.size _ [] k1 rfl (KOwns.built wr _ (Nat.le_refl _)) _ rfl HK1.out (by simp) (by have := HKL.out; have := HE.out; have := HB3.out; show (0 + k1.length) * 1 ≤ _; omega) (fun v1 W1 ho hg => ?_); refine Hid.out ?_))
      have HB1 := Lib.hid (kbelowOwn (below1 wr (.cells #[] KB.T)) (KOwns.built (K := KB) wr wr.heap.size (Nat.le_refl _)) (Nat.le_refl _) hg)
      have ho1 : KOwns KB wr.heap.size v1 k1 W1 := ho
      obtain ⟨g, cap, rfl, hat1, hgw, hgl⟩ := own_at okB ho1 HKN.out
      have HG := Lib.hid (HS.out.apart hgw)
      have HAT1 := Lib.hid hat1
      have HO1 := Lib.hid (show KOwns KB wr.heap.size (.slice (some ⟨g, 0, none⟩) k1.length cap) k1 W1 from ho1)
      have HGL := Lib.hid hgl
      have HS1 := Lib.hid (HS.out.below HB1.out)
      clear ho ho1 hg hat1 hgw hgl HK1 HS hae hec
      have HC1 := Lib.hid (ffeed_any b vr q bad (.slice (some ⟨g, 0, none⟩) k1.length cap) k1 (by have := HKL.out; have := HE.out; have := HB3.out; have := HQ.out.1; have := HMQ.out; have := HA.out; omega) W1 HS1.out.1 (HO1.out.lies okB))
      generalize hm : k1.length = m at *
      have HMM := Lib.hid hm
      clear hm
      refine Lib.hid ?_
      go_wp2_with (go_at_call 10; refine HC1.out.mono ?_; rintro e1 W2 ⟨rfl, v2, hr, hf⟩; refine Hid.out ?_)
      have HS2 := Lib.hid (HS1.out.step hr hf)
      have HAT2 := Lib.hid (HAT1.out.same (hf.keep g HGL.out HG.out.1 HG.out.2.1))
      have HG2 := Lib.hid (show v2.ownBlock ≠ some g from fun e => by
        rcases hf.own g e with e | e
        · exact HG.out.2.1 e
        · have := HGL.out; omega)
      clear hr hf HC1 HS1 HAT1 HO1 HGL HB1
      refine Lib.hid ?_
      go_wp2_with fail
      go_loopg [12] m (fun s a12 wx => ∃ t : Nat, t + s = m ∧ a12 = .int .i64 t ∧ FpS w b v2 (q ++ k1) bad (.slice pw mq cw) q wx ∧ ∃ ks : List Int, ks.length = m ∧ KAt KB g cap ks wx)
      case atStart => exact ⟨0, by omega, rfl, HS2.out, k1, HMM.out, HAT2.out⟩
      case round =>
        clear HS2 HAT2
        obtain ⟨t, ht, rfl, hS, ks, hks, hat2⟩ := hrel
        have HSx := Lib.hid hS
        have HAx := Lib.hid hat2
        have HKx := Lib.hid hks
        clear hS hat2 hks
        by_cases htm : t < m
        · have htI : (t : Int) < (m : Int) := by omega
          have ht9 : t < 3000 := by have := HB3.out; have := HKL.out; have := HE.out; omega
          obtain ⟨x, hx⟩ := lt_some (l := ks) (i := t) (by have := HKx.out; omega)
          have cx : wr.cell? ⟨g, t, none⟩ = some (.int .u8 x) := by
            have h := HAx.out.range hx 0 (.int .u8 x) rfl
            rwa [show t * 1 + 0 = t by omega] at h
          obtain ⟨z, hz⟩ : ∃ z, z = (x + 1) % 256 := ⟨_, rfl⟩
          have e1 : IntKind.u8.wrap (x + 1) = z := by rw [IntKind.wrap_u8, hz]
          have e2 : (x + 1) % 256 = z := hz.symm
          have HTH := Lib.hid (show wr.there g t 1 from by
            have h := HAx.out.there (i := t) (by have := HAx.out.1; have := HKx.out; omega)
            rwa [show t * KB.n = t by show t * 1 = t; omega] at h)
          have HSy := Lib.hid (HSx.out.set HG.out.1 HG2.out HG.out.2.2.1 HG.out.2.2.2 t (.int .u8 z))
          have HAy := Lib.hid (show KAt KB g cap (ks.set t z) (wr.setCell ⟨g, t, none⟩ (.int .u8 z)) from by
            have h := KAt.cell okB HAx.out hx (.int .u8 z) (m := 0) (by decide) (a' := z) rfl
            rwa [show t * KB.n + 0 = t by show t * 1 + 0 = t; omega] at h)
          clear hx hz htm
          go_wp2_with (refine storeCell rfl 5 _ _ rfl g t (.int .u8 z) rfl (by first | rfl | exact congrArg (Value.int .u8) e1 | exact congrArg (Value.int .u8) e2) rfl HTH.out infoU8 ?_; refine Hid.out ?_)
          clear cx e1 e2 HTH HAx HSx
          generalize wr.setCell ⟨g, t, none⟩ (.int .u8 z) = W3 at *
          refine Lib.hid ?_
          go_wp2_with fail
          go_roundg (m - (t + 1))
          case measure => omega
          case rel => exact ⟨t + 1, by omega, by go_num, HSy.out, ks.set t z, by rw [List.length_set]; exact HKx.out, HAy.out⟩
        · have htI : ¬ (t : Int) < (m : Int) := by omega
          clear ht htm HAx HKx
          have hae : at_ ≤ e := Nat.le_of_lt HE.out.1
          have hec : e ≤ c := Nat.le_trans HE.out.2 HcapL.out
          have HKx := Lib.hid (HKA.out.below okB HSx.out.old)
          go_wp2_with (first
            | (refine wpMidB rfl _ _ _ rfl p n c at_ e rfl rfl rfl hae hec ?_)
            | (refine tappend KB okB rfl _ _ rfl (b + 1) _ q k1 rfl HSx.out.2.1 _ rfl HKx.out HKN.out (by have := HSx.out.1.lt; omega) (by have := HKL.out; have := HMM.out; have := HMQ.out; have := HE.out; have := HQ.out.1; have := HA.out; have := HB3.out; show (q.length + k1.length) * 1 ≤ _; omega) (fun vw' W3 hta hg hat => ?_); refine Hid.out ?_))
          have HS3 := Lib.hid (HSx.out.grow hta hg hat)
          obtain ⟨pv, cv, rfl⟩ := hta.form
          have HQ2 := Lib.hid (show (q ++ k1).length ≤ e ∧ ByL (q ++ k1) from ⟨by rw [List.length_append]; have := HKL.out; have := HMM.out; have := HMQ.out; have := HE.out; have := HQ.out.1; omega, HQ.out.2.app HKB.out⟩)
          clear hta hg hat HSx HKx HG HG2 HKA HKN hae hec HMM HKB HKL HQ HMQ
          generalize q ++ k1 = q2 at *
          have HC3 := Lib.hid (fleft_any b v2 q2 bad (by have := HQ2.out.1; have := HE.out; have := HB3.out; omega) W3 HS3.out.1)
          generalize hm2 : q2.length = m2 at *
          have HM2 := Lib.hid hm2
          clear hm2
          refine Lib.hid ?_
          go_wp2_with (go_at_call 13; refine HC3.out.mono ?_; rintro e1 W4 ⟨rfl, hb⟩; refine Hid.out ?_)
          have HS4 := Lib.hid (HS3.out.below hb)
          clear hb HS3 HC3
          refine Lib.hid ?_
          go_wp2_with fail
          go_loopg [6, 7, 13] (m2 + 1) (fun s vw bd ag wx => ∃ (v3 : Value) (q : List Int) (bad3 : Bool), FpS w b v3 q bad3 vw q wx ∧ bd = .bool bad3 ∧ q.length ≤ e ∧ ByL q ∧ ((ag = .bool true ∧ s = q.length + 1) ∨ (ag = .bool false ∧ s = 0)))
          case atStart => exact ⟨v2, q2, bad, HS4.out, rfl, by rw [HM2.out]; exact HQ2.out.1, HQ2.out.2, .inl ⟨rfl, by rw [HM2.out]⟩⟩
          case round =>
            clear HS4 HQ2 HM2
            obtain ⟨v3, q, bad3, hS, rfl, hqe, hqb, hag⟩ := hrel
            obtain ⟨pw3, cw3, rfl⟩ := hS.2.1.form
            have HSa := Lib.hid hS
            have HQa := Lib.hid (And.intro hqe hqb)
            clear hS hqe hqb
            rcases hag with ⟨rfl, hms⟩ | ⟨rfl, hms⟩
            rotate_left
            · have hi9 : i < 3000 := by have := HA.out; have := HE.out; have := HB3.out; omega
              clear hms
              generalize hmq : q.length = mq at *
              have HMQ := Lib.hid hmq
              clear hmq
              go_wp2_with fail
              go_roundg (n - e)
              case measure => have := HA.out; have := HE.out; omega
              case rel => exact ⟨e, i + 1, v3, q, bad3, by have := HE.out; omega, rfl, by go_num, by have := HA.out; have := HE.out; omega, rfl, HSa.out, by rw [HMQ.out]; exact HQa.out.1, HQa.out.2⟩
            have HMS := Lib.hid hms
            clear hms
            obtain ⟨⟨c1, k3, q3, bad4⟩, hr4⟩ : ∃ r, nxt q bad3 = r := ⟨_, rfl⟩
            have HNX := Lib.hid hr4
            have HC4 := Lib.hid (fnext_any b v3 q bad3 (by have := HQa.out.1; have := HE.out; have := HB3.out; omega) HQa.out.2 wr HSa.out.1)
            rw [hr4] at HC4
            clear hr4
            generalize hmq : q.length = mq at *
            have HMQ := Lib.hid hmq
            clear hmq
            go_wp2_with (go_at_call 11; refine HC4.out.mono ?_; rintro e1 W5 ⟨y, v4, rfl, hy, _, hr, hf⟩; refine Hid.out ?_)
            have HSb := Lib.hid (HSa.out.step hr hf)
            have HY := Lib.hid (hy.lies okB)
            obtain ⟨py, cy, rfl⟩ := hy.form
            clear hr hf hy HSa HC4
            refine Lib.hid ?_
            go_upto_block 6 with fail
            go_cut [16] (fun a16 W => a16 = .int .i64 (nOf q) ∧ W5 = W)
            case first =>
              by_cases h4 : mq < 4
              · have h4I : (mq : Int) < 4 := by omega
                have HN0 := Lib.hid (nOf_no (q := q) (by rw [HMQ.out]; exact h4))
                clear h4
                go_wp2_with fail
                go_loopg [16, 17] 0 (fun s a16 a17 W => a16 = .int .i64 0 ∧ a17 = .int .i64 0 ∧ W5 = W)
                case atStart => exact ⟨rfl, rfl, rfl⟩
                case round =>
                  obtain ⟨rfl, rfl, rfl⟩ := hrel
                  go_wp2_with fail
                  go_meet
                  case rel => exact ⟨by rw [HN0.out], rfl⟩
              · have h4I : ¬ (mq : Int) < 4 := by omega
                have HN0 := Lib.hid (nOf_yes (q := q) (by rw [HMQ.out]; exact h4))
                have H4 := Lib.hid h4
                have HWL := Lib.hid HSb.out.lies
                clear h4
                go_wp2_with fail
                go_loopg [16, 17] 4 (fun s a16 a17 W => ∃ t : Nat, t + s = 4 ∧ a16 = .int .i64 (valB (q.take t)) ∧ a17 = .int .i64 t ∧ W5 = W)
                case atStart => exact ⟨0, by omega, rfl, rfl, rfl⟩
                case round =>
                  obtain ⟨t, ht, rfl, rfl, rfl⟩ := hrel
                  by_cases ht4 : t < 4
                  · have htI : (t : Int) < 4 := by omega
                    have htm : (t : Int) < (mq : Int) := by omega
                    obtain ⟨x, hx⟩ := lt_some (l := q) (i := t) (by rw [HMQ.out]; have := H4.out; omega)
                    obtain ⟨bb, o, rfl, kx⟩ := cellB HWL.out hx
                    obtain ⟨hv0, hv1⟩ := valB_small24 HQa.out.2 (r := t) (by omega)
                    have hxb := HQa.out.2 x (List.mem_of_getElem? hx)
                    have HT := Lib.hid (valB_take hx)
                    clear hx
                    generalize valB (q.take t) = V at *
                    have e1 : wrap64 (V * 256) = V * 256 := by simp only [wrap64]; omega
                    have e2 : wrap64 (V * 256 + x) = V * 256 + x := by simp only [wrap64]; omega
                    have e3 : IntKind.i64.wrap x = x := by simp only [IntKind.wrap_i64]; omega
                    have e4 : wrap64 x = x := by simp only [wrap64]; omega
                    clear hv0 hv1 hxb
                    go_wp2_with fail
                    go_roundg (4 - (t + 1))
                    case measure => omega
                    case rel => exact ⟨t + 1, by omega, by rw [HT.out]; first | rfl | exact congrArg (Value.int .i64) e2, by go_num, rfl⟩
                  · have htI : ¬ (t : Int) < 4 := by omega
                    obtain rfl : t = 4 := by omega
                    generalize valB (q.take 4) = V at *
                    go_wp2_with fail
                    go_meet
                    case rel => exact ⟨by rw [HN0.out], rfl⟩
            case rest =>
              obtain ⟨rfl, rfl⟩ := hcut
              have HS6 := HSb
              clear HSb
              obtain ⟨V, hV⟩ : ∃ V : Nat, (V : Int) = nOf q := ⟨(nOf q).toNat, Int.toNat_of_nonneg (by
                unfold nOf
                split
                · exact Int.le_refl _
                · exact (valB_small32 HQa.out.2 (r := 4) (Nat.le_refl _)).1)⟩
              have hV9 : (V : Int) < 4294967296 := by
                rw [hV]
                unfold nOf
                split
                · decide
                · exact (valB_small32 HQa.out.2 (r := 4) (Nat.le_refl _)).2
              rw [← hV]
              have HV := Lib.hid hV
              have HV9 := Lib.hid hV9
              clear hV hV9
              cases bad3
              rotate_left
              · have hx := HNX.out
                rw [nxt_bad] at hx
                injection hx with x1 hx
                injection hx with x2 hx
                injection hx with x3 x4
                subst x1 x2 x3 x4
                refine Lib.hid ?_
                go_wp2_with fail
                go_roundg 0
                case measure => have := HMS.out; omega
                case rel => exact ⟨v4, q, true, HS6.out, rfl, by rw [HMQ.out]; exact HQa.out.1, HQa.out.2, .inr ⟨rfl, rfl⟩⟩
              by_cases h4 : mq < 4
              · have hx := HNX.out
                rw [nxt_short (by rw [HMQ.out]; exact h4)] at hx
                injection hx with x1 hx
                injection hx with x2 hx
                injection hx with x3 x4
                subst x1 x2 x3 x4
                have hV0 : V = 0 := by have := HV.out; rw [nOf_no (by rw [HMQ.out]; exact h4)] at this; omega
                subst hV0
                have h4I : (mq : Int) < 4 := by omega
                clear h4
                go_wp2_with fail
                go_roundg 0
                case measure => have := HMS.out; omega
                case rel => exact ⟨v4, q, false, HS6.out, rfl, by rw [HMQ.out]; exact HQa.out.1, HQa.out.2, .inr ⟨rfl, rfl⟩⟩
              have hVe : (V : Int) = valB (q.take 4) := by rw [HV.out, nOf_yes (by rw [HMQ.out]; exact h4)]
              have HVe := Lib.hid hVe
              have HVn := Lib.hid (show (valB (q.take 4)).toNat = V by rw [← hVe]; rfl)
              clear hVe
              by_cases hL : 65536 < V
              · have hx := HNX.out
                rw [nxt_long (by rw [HMQ.out]; exact h4) (by rw [← HVe.out]; omega)] at hx
                injection hx with x1 hx
                injection hx with x2 hx
                injection hx with x3 x4
                subst x1 x2 x3 x4
                have hLI : (65536 : Int) < (V : Int) := by omega
                clear h4 hL
                go_wp2_with fail
                go_roundg 0
                case measure => have := HMS.out; omega
                case rel => exact ⟨v4, q, true, HS6.out, rfl, by rw [HMQ.out]; exact HQa.out.1, HQa.out.2, .inr ⟨rfl, rfl⟩⟩
              have hLI : ¬ (65536 : Int) < (V : Int) := by omega
              have h4I : ¬ (mq : Int) < 4 := by omega
              obtain ⟨z, hz⟩ : ∃ z, z = 4 + V := ⟨_, rfl⟩
              have HZ := Lib.hid hz
              have e2 : wrap64 (4 + (V : Int)) = (z : Int) := by simp only [wrap64]; omega
              clear hz
              by_cases hP : mq < z
              · have hx := HNX.out
                rw [nxt_part (by rw [HMQ.out]; exact h4) (by rw [← HVe.out]; exact hLI) (by rw [HVn.out, HMQ.out, ← HZ.out]; exact hP)] at hx
                injection hx with x1 hx
                injection hx with x2 hx
                injection hx with x3 x4
                subst x1 x2 x3 x4
                have hPI : (mq : Int) < (z : Int) := by omega
                clear h4 hL hP
                go_upto_region 40 with fail
                clear hLI
                go_upto_region 41 with fail
                clear e2 hPI
                go_wp2_with fail
                go_roundg 0
                case measure => have := HMS.out; omega
                case rel => exact ⟨v4, q, false, HS6.out, rfl, by rw [HMQ.out]; exact HQa.out.1, HQa.out.2, .inr ⟨rfl, rfl⟩⟩
              have hPI : ¬ (mq : Int) < (z : Int) := by omega
              have HP4 := Lib.hid (Nat.le_of_not_lt hP)
              have hx := HNX.out
              rw [nxt_ok (by rw [HMQ.out]; exact h4) (by rw [← HVe.out]; exact hLI) (by rw [HVn.out, HMQ.out, ← HZ.out]; exact hP), HVn.out] at hx
              injection hx with x1 hx
              injection hx with x2 hx
              injection hx with x3 x4
              subst x1 x2 x3 x4
              clear h4 hL hP
              have HZ4 := Lib.hid (show z - 4 = V by have := HZ.out; omega)
              have HC6 := Lib.hid (rsame_at (.slice py ((q.drop 4).take V).length cy) (.slice (midP pw3 cw3 4) (z - 4) (cw3 - 4)) ((q.drop 4).take V) (by rw [List.length_take]; have := HV9.out; omega) W5 HY.out (by
                have h := HS6.out.lies
                rw [← HMQ.out] at h
                have h2 := lies_mid h (c := 4) (h := z) (by have := HZ.out; omega) (by rw [HMQ.out]; exact HP4.out)
                rwa [HZ4.out] at h2 ⊢))
              have hz4 : 4 ≤ z := by have := HZ.out; omega
              have hzc : z ≤ cw3 := by
                have h := HS6.out.2.1
                rw [← HMQ.out] at h
                have := h.capLe
                have := HP4.out
                have := HMQ.out
                omega
              generalize ((q.drop 4).take V).length = ly at *
              go_upto_region 40 with fail
              clear hLI
              go_upto_region 33 with fail
              clear hPI h4I
              go_wp2_with (refine wpMidG rfl _ _ _ rfl pw3 mq cw3 4 z rfl rfl (by first | rfl | exact congrArg (Value.int .i64) e2) hz4 hzc ?_; simp only [Act.put, List.setIfInBounds_toArray, List.set_cons_zero, List.set_cons_succ]; refine Hid.out ?_)
              generalize midP pw3 cw3 4 = p9 at *
              generalize cw3 - 4 = c9 at *
              generalize z - 4 = z9 at *
              refine Lib.hid ?_
              go_wp2_with (go_at_call 12; refine HC6.out.mono ?_; rintro e1 W6 ⟨rfl, hb⟩; refine Hid.out ?_)
              have HS7 := Lib.hid (HS6.out.below hb)
              clear hb HC6 HS6 HY
              refine Lib.hid ?_
              go_wp2_with (refine wpFromB rfl _ _ rfl pw3 mq cw3 z rfl (by first | rfl | exact congrArg (Value.int .i64) e2) HP4.out ?_; simp only [Act.put, List.setIfInBounds_toArray, List.set_cons_zero, List.set_cons_succ]; refine Hid.out ?_)
              obtain ⟨p8, c8, H8⟩ : ∃ p8 c8, Hid (fromV 1 pw3 mq cw3 z = .slice p8 (mq - z) c8) := ⟨_, _, Lib.hid rfl⟩
              have HS8 := Lib.hid (show FpS w b v4 (q.drop z) false (.slice p8 (mq - z) c8) (q.drop z) W6 from by
                have h := HS7.out
                have e8 := H8.out
                rw [← HMQ.out] at h e8 ⊢
                rw [← HZ.out] at h
                exact h.cut (by have := HP4.out; have := HMQ.out; omega) e8)
              rw [H8.out]
              clear H8 HS7
              refine Lib.hid ?_
              go_wp2_with fail
              go_roundg ((q.drop z).length + 1)
              case measure => rw [List.length_drop]; have := HMS.out; have := HMQ.out; have := HP4.out; omega
              case rel => exact ⟨v4, q.drop z, false, HS8.out, rfl, by rw [List.length_drop, HMQ.out]; have := HQa.out.1; omega, HQa.out.2.drop z, .inl ⟨rfl, rfl⟩⟩
/-- The law, for all lengths. -/
theorem frameParts_any (v : Value) (l : List Int) (hb : ∀ a ∈ l, 0 ≤ a ∧ a < 256) (u : Value) (ps : List Int) (hp : ∀ a ∈ ps, 0 ≤ a ∧ a < 256) (w : World) (hl : KLies KB v l w) (hs : KLies KB u ps w) :
    Calls Try.prog 4 #[v, u] w fun e w' => e = .returned (.bool true) ∧ Below w.heap.size w w' := by
  by_cases h : l.length ≤ 3000 ∧ ps.length ≠ 0 ∧ ps.length ≤ 100
  · exact frameParts_in v u l ps hb hp w hl hs h.1 h.2.1 h.2.2
  have HA := Lib.hid (answers10 w)
  obtain ⟨p, c, rfl⟩ := hl.form
  obtain ⟨pp, pc, rfl⟩ := hs.form
  generalize l.length = n at *
  generalize ps.length = np at *
  clear hl hs hb hp
  by_cases h1 : 3000 < n
  · have g1 : (3000 : Int) < (n : Int) := by omega
    clear h h1
    go_enter Try.func4, Try.ntmps4
    go_wp2_with (go_at_call 8; refine HA.out.mono ?_; rintro e W1 ⟨rfl, hb⟩)
    go_ret
    exact ⟨rfl, hb⟩
  have g1 : ¬ (3000 : Int) < (n : Int) := by omega
  by_cases h2 : np = 0
  · have g2 : ((np : Int) == 0) = true := by simpa using h2
    clear h h1 h2
    go_enter Try.func4, Try.ntmps4
    go_wp2_with (go_at_call 8; refine HA.out.mono ?_; rintro e W1 ⟨rfl, hb⟩)
    go_ret
    exact ⟨rfl, hb⟩
  have g2 : ((np : Int) == 0) = false := by simpa using h2
  have g3 : (100 : Int) < (np : Int) := by omega
  clear h h1 h2
  go_enter Try.func4, Try.ntmps4
  go_wp2_with (go_at_call 8; refine HA.out.mono ?_; rintro e W1 ⟨rfl, hb⟩)
  go_ret
  exact ⟨rfl, hb⟩
end Go.Proofs.Ytdcekbmoihmjkaa
