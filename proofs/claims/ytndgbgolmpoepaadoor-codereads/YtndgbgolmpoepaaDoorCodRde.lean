/-
  The program's reader: rule.
-/
import Derived.Test.YtndgbgolmpoepaaDoorCodRdc
namespace Go.Proofs.YtndgbgolmpoepaaDoor
set_option maxRecDepth 20000
open Go.RowKit

theorem infoInt : (Tryd.prog.info? 3).map (·.size) = some 1 := by kernel_rfl
theorem rca29 (r : Ru) (x : Int) : (rca ⟨r, none, 0, 0⟩).setIfInBounds 29 (.int .i64 x) = rca ⟨⟨r.m, r.p, r.acts, r.idle, r.hard, r.owner, x, r.quiet, r.age⟩, none, 0, 0⟩ := by kernel_rfl
theorem rca30 (r : Ru) (x : Int) : (rca ⟨r, none, 0, 0⟩).setIfInBounds 30 (.int .i64 x) = rca ⟨⟨r.m, r.p, r.acts, r.idle, r.hard, r.owner, r.hits, x, r.age⟩, none, 0, 0⟩ := by kernel_rfl
theorem rca31 (r : Ru) (x : Int) : (rca ⟨r, none, 0, 0⟩).setIfInBounds 31 (.int .i64 x) = rca ⟨⟨r.m, r.p, r.acts, r.idle, r.hard, r.owner, r.hits, r.quiet, x⟩, none, 0, 0⟩ := by kernel_rfl
theorem Blk.oneTo {b k : Nat} {cs cs' : Array Value} {t : TypeId} {W : World} {v : Value} (h : Blk b cs t W) (e : cs.setIfInBounds k v = cs') : Blk b cs' t (W.setCell ⟨b, k, none⟩ v) := e ▸ h.one (k := k) v
/-- the three counts so far -/
def cn3 (l : List Int) : Array Value := #[.int .i64 (nthI l 0), .int .i64 (nthI l 1), .int .i64 (nthI l 2)]
theorem cn3_set {l : List Int} {r : Nat} (hl : l.length = r) (hr : r < 3) (n : Int) : (cn3 l).setIfInBounds r (.int .i64 n) = cn3 (l ++ [n]) := by
  match l, hl with
  | [], hl => simp only [List.length_nil] at hl; subst hl; rfl
  | [a], hl => simp only [List.length_cons, List.length_nil] at hl; subst hl; rfl
  | [a, c], hl => simp only [List.length_cons, List.length_nil] at hl; subst hl; rfl
  | a :: c :: d :: l, hl => simp only [List.length_cons] at hl; omega
set_option maxHeartbeats 8000000 in
theorem rrule_read (w0 : World) (b : Nat) (x0 : Sta) (w : World) (hs0 : RdS w0 b x0 w) :
    Calls Tryd.prog 78 #[.pointer (some ⟨b, 0, none⟩)] w (RdRule w0 b w (gRule x0).1 (gRule x0).2) := by
  obtain ⟨⟨c, x1⟩, h0⟩ : ∃ y, gNs (List.replicate 24 8) x0 = y := ⟨_, rfl⟩
  obtain ⟨⟨p, x2⟩, h1⟩ : ∃ y, gN 2 x1 = y := ⟨_, rfl⟩
  obtain ⟨⟨i, x3⟩, h2⟩ : ∃ y, gN 4 x2 = y := ⟨_, rfl⟩
  obtain ⟨⟨h, x4⟩, h3⟩ : ∃ y, gN 4 x3 = y := ⟨_, rfl⟩
  obtain ⟨⟨o, x5⟩, h4⟩ : ∃ y, gN 1 x4 = y := ⟨_, rfl⟩
  obtain ⟨⟨n1, x6⟩, h5⟩ : ∃ y, gN 8 x5 = y := ⟨_, rfl⟩
  obtain ⟨⟨n2, x7⟩, h6⟩ : ∃ y, gN 8 x6 = y := ⟨_, rfl⟩
  obtain ⟨⟨n3, x8⟩, h7⟩ : ∃ y, gN 8 x7 = y := ⟨_, rfl⟩
  obtain ⟨⟨ac, x9⟩, h8⟩ : ∃ y, gActs x8 = y := ⟨_, rfl⟩
  have HG3 : gNs (List.replicate 3 8) x5 = ([n1, n2, n3], x8) := by
    show gNs [8, 8, 8] x5 = _
    simp only [gNs]
    rw [h5, h6, h7]
  have HG3 := Lib.hid HG3
  rw [gRule_parts x0 h0 h1 h2 h3 h4 h5 h6 h7 h8]
  have E0 := Lib.hid h0
  have E1 := Lib.hid h1
  have E2 := Lib.hid h2
  have E3 := Lib.hid h3
  have E4 := Lib.hid h4
  have E8 := Lib.hid h8
  have HS0 := Lib.hid (hs0.alloc (.cells #[Value.int IntKind.u64 0, Value.int IntKind.u64 0, Value.int IntKind.u64 0, Value.int IntKind.u64 0, Value.int IntKind.u64 0, Value.int IntKind.u64 0, Value.int IntKind.u64 0, Value.int IntKind.u64 0, Value.int IntKind.u64 0, Value.int IntKind.u64 0, Value.int IntKind.u64 0, Value.int IntKind.u64 0, Value.int IntKind.u64 0, Value.int IntKind.u64 0, Value.int IntKind.u64 0, Value.int IntKind.u64 0, Value.int IntKind.u64 0, Value.int IntKind.u64 0, Value.int IntKind.u64 0, Value.int IntKind.u64 0, Value.int IntKind.u64 0, Value.int IntKind.u64 0, Value.int IntKind.u64 0, Value.int IntKind.u64 0, Value.int IntKind.i64 0, Value.slice none 0 0, Value.int IntKind.i64 0, Value.int IntKind.i64 0, Value.int IntKind.i64 0, Value.int IntKind.i64 0, Value.int IntKind.i64 0, Value.int IntKind.i64 0] 65))
  have HT0 := Lib.hid (RStep.alloc hs0 (.cells #[Value.int IntKind.u64 0, Value.int IntKind.u64 0, Value.int IntKind.u64 0, Value.int IntKind.u64 0, Value.int IntKind.u64 0, Value.int IntKind.u64 0, Value.int IntKind.u64 0, Value.int IntKind.u64 0, Value.int IntKind.u64 0, Value.int IntKind.u64 0, Value.int IntKind.u64 0, Value.int IntKind.u64 0, Value.int IntKind.u64 0, Value.int IntKind.u64 0, Value.int IntKind.u64 0, Value.int IntKind.u64 0, Value.int IntKind.u64 0, Value.int IntKind.u64 0, Value.int IntKind.u64 0, Value.int IntKind.u64 0, Value.int IntKind.u64 0, Value.int IntKind.u64 0, Value.int IntKind.u64 0, Value.int IntKind.u64 0, Value.int IntKind.i64 0, Value.slice none 0 0, Value.int IntKind.i64 0, Value.int IntKind.i64 0, Value.int IntKind.i64 0, Value.int IntKind.i64 0, Value.int IntKind.i64 0, Value.int IntKind.i64 0] 65))
  have R0 := Lib.hid (Blk.new w #[Value.int IntKind.u64 0, Value.int IntKind.u64 0, Value.int IntKind.u64 0, Value.int IntKind.u64 0, Value.int IntKind.u64 0, Value.int IntKind.u64 0, Value.int IntKind.u64 0, Value.int IntKind.u64 0, Value.int IntKind.u64 0, Value.int IntKind.u64 0, Value.int IntKind.u64 0, Value.int IntKind.u64 0, Value.int IntKind.u64 0, Value.int IntKind.u64 0, Value.int IntKind.u64 0, Value.int IntKind.u64 0, Value.int IntKind.u64 0, Value.int IntKind.u64 0, Value.int IntKind.u64 0, Value.int IntKind.u64 0, Value.int IntKind.u64 0, Value.int IntKind.u64 0, Value.int IntKind.u64 0, Value.int IntKind.u64 0, Value.int IntKind.i64 0, Value.slice none 0 0, Value.int IntKind.i64 0, Value.int IntKind.i64 0, Value.int IntKind.i64 0, Value.int IntKind.i64 0, Value.int IntKind.i64 0, Value.int IntKind.i64 0] 65)
  have HL := Lib.hid (show b < w.heap.size from hs0.lt)
  clear hs0 h0 h1 h2 h3 h4 h5 h6 h7 h8
  go_enter Tryd.func78, Tryd.ntmps78
  go_upto_region 1 with fail
  generalize hw : w.alloc (.cells #[Value.int IntKind.u64 0, Value.int IntKind.u64 0, Value.int IntKind.u64 0, Value.int IntKind.u64 0, Value.int IntKind.u64 0, Value.int IntKind.u64 0, Value.int IntKind.u64 0, Value.int IntKind.u64 0, Value.int IntKind.u64 0, Value.int IntKind.u64 0, Value.int IntKind.u64 0, Value.int IntKind.u64 0, Value.int IntKind.u64 0, Value.int IntKind.u64 0, Value.int IntKind.u64 0, Value.int IntKind.u64 0, Value.int IntKind.u64 0, Value.int IntKind.u64 0, Value.int IntKind.u64 0, Value.int IntKind.u64 0, Value.int IntKind.u64 0, Value.int IntKind.u64 0, Value.int IntKind.u64 0, Value.int IntKind.u64 0, Value.int IntKind.i64 0, Value.slice none 0 0, Value.int IntKind.i64 0, Value.int IntKind.i64 0, Value.int IntKind.i64 0, Value.int IntKind.i64 0, Value.int IntKind.i64 0, Value.int IntKind.i64 0] 65) = w0' at *
  clear hw
  have HC0 := Lib.hid (rmatch_any w0 b x0 w0' HS0.out)
  rw [E0.out] at HC0
  go_wp2_with (go_at_call 76; refine HC0.out.mono ?_; rintro e w1 ⟨rfl, hs, ht⟩; refine Hid.out ?_)
  have HS1 := Lib.hid hs
  have HT1 := Lib.hid (HT0.out.trans ht)
  have R1 := Lib.hid (ht.blk R0.out (by have := HL.out; omega))
  clear hs ht HC0 HS0 HT0 R0
  refine Lib.hid ?_
  have HC1 := Lib.hid (rnumber_small w0 b x1 2 (by decide) w1 HS1.out)
  rw [E1.out] at HC1
  go_wp2_with (go_at_call 58; refine HC1.out.mono ?_; rintro e w2 ⟨rfl, hs, ht⟩; refine Hid.out ?_)
  have HS2 := Lib.hid hs
  have HT2 := Lib.hid (HT1.out.trans ht)
  have R2 := Lib.hid (ht.blk R1.out (by have := HL.out; omega))
  clear hs ht HC1 HS1 HT1 R1
  refine Lib.hid ?_
  have HC2 := Lib.hid (rnumber_small w0 b x2 4 (by decide) w2 HS2.out)
  rw [E2.out] at HC2
  go_wp2_with (go_at_call 58; refine HC2.out.mono ?_; rintro e w3 ⟨rfl, hs, ht⟩; refine Hid.out ?_)
  have HS3 := Lib.hid hs
  have HT3 := Lib.hid (HT2.out.trans ht)
  have R3 := Lib.hid (ht.blk R2.out (by have := HL.out; omega))
  clear hs ht HC2 HS2 HT2 R2
  refine Lib.hid ?_
  have HC3 := Lib.hid (rnumber_small w0 b x3 4 (by decide) w3 HS3.out)
  rw [E3.out] at HC3
  go_wp2_with (go_at_call 58; refine HC3.out.mono ?_; rintro e w4 ⟨rfl, hs, ht⟩; refine Hid.out ?_)
  have HS4 := Lib.hid hs
  have HT4 := Lib.hid (HT3.out.trans ht)
  have R4 := Lib.hid (ht.blk R3.out (by have := HL.out; omega))
  clear hs ht HC3 HS3 HT3 R3
  refine Lib.hid ?_
  have HC4 := Lib.hid (rnumber_small w0 b x4 1 (by decide) w4 HS4.out)
  rw [E4.out] at HC4
  go_wp2_with (go_at_call 58; refine HC4.out.mono ?_; rintro e w5 ⟨rfl, hs, ht⟩; refine Hid.out ?_)
  have HS5 := Lib.hid hs
  have HT5 := Lib.hid (HT4.out.trans ht)
  have R5 := Lib.hid (ht.blk R4.out (by have := HL.out; omega))
  clear hs ht HC4 HS4 HT4 R4
  refine Lib.hid ?_
  have HL5 := Lib.hid (show w.heap.size < w5.heap.size from R5.out.lt)
  go_upto_region 2 with (first
    | (refine buildRl rfl _ _ _ _ _ rfl (cubeOf c 0) p i h o rfl rfl rfl rfl rfl ?_)
    | (refine wpList_store_row rfl 65 _ _ rfl w5.heap.size (rca ⟨⟨cubeOf c 0, p, [], i, h, o, 0, 0, 0⟩, none, 0, 0⟩) rfl rfl 65 _ (heap_alloc_new _ _) (by kernel_rfl) rfl (rca_one _) ?_; rw [World.setRow_alloc_new]))
  obtain ⟨V, hV⟩ : ∃ V, V = w5.alloc (.cells (rca ⟨⟨cubeOf c 0, p, [], i, h, o, 0, 0, 0⟩, none, 0, 0⟩) 65) := ⟨_, rfl⟩
  have HS6 := Lib.hid (show RdS w0 b x5 V by rw [hV]; exact HS5.out.alloc _)
  have HT6 := Lib.hid (show RStep b w V by rw [hV]; exact HT5.out.trans (RStep.alloc HS5.out _))
  have R6 := Lib.hid (show Blk w.heap.size #[Value.int IntKind.u64 0, Value.int IntKind.u64 0, Value.int IntKind.u64 0, Value.int IntKind.u64 0, Value.int IntKind.u64 0, Value.int IntKind.u64 0, Value.int IntKind.u64 0, Value.int IntKind.u64 0, Value.int IntKind.u64 0, Value.int IntKind.u64 0, Value.int IntKind.u64 0, Value.int IntKind.u64 0, Value.int IntKind.u64 0, Value.int IntKind.u64 0, Value.int IntKind.u64 0, Value.int IntKind.u64 0, Value.int IntKind.u64 0, Value.int IntKind.u64 0, Value.int IntKind.u64 0, Value.int IntKind.u64 0, Value.int IntKind.u64 0, Value.int IntKind.u64 0, Value.int IntKind.u64 0, Value.int IntKind.u64 0, Value.int IntKind.i64 0, Value.slice none 0 0, Value.int IntKind.i64 0, Value.int IntKind.i64 0, Value.int IntKind.i64 0, Value.int IntKind.i64 0, Value.int IntKind.i64 0, Value.int IntKind.i64 0] 65 V by rw [hV]; exact R5.out.old _)
  have Q6 := Lib.hid (show Blk w5.heap.size (rca ⟨⟨cubeOf c 0, p, [], i, h, o, 0, 0, 0⟩, none, 0, 0⟩) 65 V by rw [hV]; exact Blk.new _ _ _)
  have HVs := Lib.hid (show V.heap.size = w5.heap.size + 1 by rw [hV]; simp)
  rw [← hV]
  clear hV HS5 HT5 R5
  go_upto_region 3 with fail
  have HS7 := Lib.hid (HS6.out.alloc (.cells #[.int .i64 0, .int .i64 0, .int .i64 0] 99))
  have HT7 := Lib.hid (HT6.out.trans (RStep.alloc HS6.out (.cells #[.int .i64 0, .int .i64 0, .int .i64 0] 99)))
  have R7 := Lib.hid (R6.out.old (.cells #[.int .i64 0, .int .i64 0, .int .i64 0] 99))
  have Q7 := Lib.hid (Q6.out.old (.cells #[.int .i64 0, .int .i64 0, .int .i64 0] 99))
  have Z7 := Lib.hid (show Blk V.heap.size (cn3 (([] : List Int).map sgnI)) 99 (V.alloc (.cells #[.int .i64 0, .int .i64 0, .int .i64 0] 99)) from Blk.new V #[.int .i64 0, .int .i64 0, .int .i64 0] 99)
  have HB := Lib.hid (show b < w.heap.size ∧ w.heap.size < w5.heap.size ∧ w5.heap.size < V.heap.size from ⟨HL.out, HL5.out, by have := HVs.out; omega⟩)
  clear HS6 HT6 R6 Q6 HVs HL5
  generalize V.alloc (.cells #[.int .i64 0, .int .i64 0, .int .i64 0] 99) = V1 at *
  generalize V.heap.size = B4 at *
  generalize w5.heap.size = B3 at *
  go_wp2_with fail
  go_loopg [17] 3 (fun k ix wr => ∃ (r : Nat) (ns : List Int) (x' : Sta), r + k = 3 ∧ ix = .int .i64 r ∧ gNs (List.replicate r 8) x5 = (ns, x') ∧ RdS w0 b x' wr ∧ RStep b w wr ∧ Blk w.heap.size #[Value.int IntKind.u64 0, Value.int IntKind.u64 0, Value.int IntKind.u64 0, Value.int IntKind.u64 0, Value.int IntKind.u64 0, Value.int IntKind.u64 0, Value.int IntKind.u64 0, Value.int IntKind.u64 0, Value.int IntKind.u64 0, Value.int IntKind.u64 0, Value.int IntKind.u64 0, Value.int IntKind.u64 0, Value.int IntKind.u64 0, Value.int IntKind.u64 0, Value.int IntKind.u64 0, Value.int IntKind.u64 0, Value.int IntKind.u64 0, Value.int IntKind.u64 0, Value.int IntKind.u64 0, Value.int IntKind.u64 0, Value.int IntKind.u64 0, Value.int IntKind.u64 0, Value.int IntKind.u64 0, Value.int IntKind.u64 0, Value.int IntKind.i64 0, Value.slice none 0 0, Value.int IntKind.i64 0, Value.int IntKind.i64 0, Value.int IntKind.i64 0, Value.int IntKind.i64 0, Value.int IntKind.i64 0, Value.int IntKind.i64 0] 65 wr ∧ Blk B3 (rca ⟨⟨cubeOf c 0, p, [], i, h, o, 0, 0, 0⟩, none, 0, 0⟩) 65 wr ∧ Blk B4 (cn3 (ns.map sgnI)) 99 wr)
  case atStart => exact ⟨0, [], x5, by omega, rfl, rfl, HS7.out, HT7.out, R7.out, Q7.out, Z7.out⟩
  case round =>
    clear HS7 HT7 R7 Q7 Z7
    obtain ⟨r, ns, x', hr, rfl, he, hs, ht, h1, h2, h3⟩ := hrel
    have HSa := Lib.hid hs
    have HTa := Lib.hid ht
    have RZa := Lib.hid h1
    have Q0 := Lib.hid h2
    have Z0 := Lib.hid h3
    have HE := Lib.hid he
    have HNl := Lib.hid (show ns.length = r by have := rep_len r x5; rw [he] at this; exact this)
    clear hs ht h1 h2 h3 he
    by_cases hlt : r < 3
    · have hltI : (r : Int) < 3 := by omega
      obtain ⟨⟨n, y⟩, hn⟩ : ∃ y, gN 8 x' = y := ⟨_, rfl⟩
      have HEn := Lib.hid (show gNs (List.replicate (r + 1) 8) x5 = (ns ++ [n], y) by rw [gNs_snoc, HE.out]; simp only; rw [hn])
      have HC := Lib.hid (rnumber_any w0 b x' 8 (by decide) wr HSa.out)
      rw [hn] at HC
      clear hn
      go_wp2_with (go_at_call 58; refine HC.out.mono ?_; rintro e v1 ⟨rfl, hs, ht⟩; refine Hid.out ?_)
      have HSb := Lib.hid hs
      have HTb := Lib.hid (HTa.out.trans ht)
      have RZb := Lib.hid (ht.blk RZa.out (by have := HB.out; omega))
      have Q1 := Lib.hid (ht.blk Q0.out (by have := HB.out; omega))
      have Z1 := Lib.hid (ht.blk Z0.out (by have := HB.out; omega))
      clear hs ht HC HSa HTa RZa Q0 Z0
      refine Lib.hid ?_
      go_wp2_with (refine storeCell rfl 3 _ _ rfl B4 r (.int .i64 (sgnI n)) rfl rfl rfl (Z1.out.there (by show r + 1 ≤ 3; omega)) infoInt ?_; refine Hid.out ?_)
      have Z2 := Lib.hid (show Blk B4 (cn3 ((ns ++ [n]).map sgnI)) 99 (v1.setCell ⟨B4, r, none⟩ (.int .i64 (sgnI n))) by
        rw [List.map_append]
        exact Blk.oneTo Z1.out (cn3_set (by rw [List.length_map]; exact HNl.out) hlt (sgnI n)))
      have HSc := Lib.hid (RdS.cset (g := B4) (k := r) (v := .int .i64 (sgnI n)) HSb.out (by have := HB.out; omega))
      have HTc := Lib.hid (RStep.cset (g := B4) (k := r) (v := .int .i64 (sgnI n)) HTb.out HL.out (by have := HB.out; omega))
      have RZc := Lib.hid (RZb.out.cother (g := B4) (k := r) (by have := HB.out; omega) (.int .i64 (sgnI n)))
      have Q2 := Lib.hid (Q1.out.cother (g := B4) (k := r) (by have := HB.out; omega) (.int .i64 (sgnI n)))
      clear HSb HTb RZb Q1 Z1
      generalize v1.setCell ⟨B4, r, none⟩ (.int .i64 (sgnI n)) = V2 at *
      refine Lib.hid ?_
      go_wp2_with fail
      go_roundg (3 - (r + 1))
      case measure => omega
      case rel => exact ⟨r + 1, ns ++ [n], y, by omega, by go_num, HEn.out, HSc.out, HTc.out, RZc.out, Q2.out, Z2.out⟩
    · obtain rfl : r = 3 := by omega
      have e3 := HE.out
      rw [HG3.out] at e3
      injection e3 with e4 e5
      subst e4 e5
      obtain ⟨s1, hs1⟩ : ∃ s, s = sgnI n1 := ⟨_, rfl⟩
      obtain ⟨s2, hs2⟩ : ∃ s, s = sgnI n2 := ⟨_, rfl⟩
      obtain ⟨s3, hs3⟩ : ∃ s, s = sgnI n3 := ⟨_, rfl⟩
      rw [← hs1, ← hs2, ← hs3]
      have ZA := Lib.hid (show Blk B4 #[.int .i64 s1, .int .i64 s2, .int .i64 s3] 99 wr by rw [hs1, hs2, hs3]; exact Z0.out)
      have HN1 := Lib.hid hs1
      have HN2 := Lib.hid hs2
      have HN3 := Lib.hid hs3
      clear Z0 HE HNl hs1 hs2 hs3 HG3
      go_upto_region 8 with fail
      refine wp_region_held_drew (S := fun W => Blk B4 #[.int .i64 s1, .int .i64 s2, .int .i64 s3] 99 W) (by kernel_rfl) ZA.out.drew (fun hS => ?_)
      have HSa := Lib.hid (HSa.out.below (Below.refl _ wr).drew)
      have HTa := Lib.hid (HTa.out.trans (RStep.of (Below.refl _ wr).drew (Nat.le_of_lt HSa.out.lt)))
      have RZa := Lib.hid (show Blk w.heap.size #[Value.int IntKind.u64 0, Value.int IntKind.u64 0, Value.int IntKind.u64 0, Value.int IntKind.u64 0, Value.int IntKind.u64 0, Value.int IntKind.u64 0, Value.int IntKind.u64 0, Value.int IntKind.u64 0, Value.int IntKind.u64 0, Value.int IntKind.u64 0, Value.int IntKind.u64 0, Value.int IntKind.u64 0, Value.int IntKind.u64 0, Value.int IntKind.u64 0, Value.int IntKind.u64 0, Value.int IntKind.u64 0, Value.int IntKind.u64 0, Value.int IntKind.u64 0, Value.int IntKind.u64 0, Value.int IntKind.u64 0, Value.int IntKind.u64 0, Value.int IntKind.u64 0, Value.int IntKind.u64 0, Value.int IntKind.u64 0, Value.int IntKind.i64 0, Value.slice none 0 0, Value.int IntKind.i64 0, Value.int IntKind.i64 0, Value.int IntKind.i64 0, Value.int IntKind.i64 0, Value.int IntKind.i64 0, Value.int IntKind.i64 0] 65 wr.drew from RZa.out.drew)
      have Q0 := Lib.hid (show Blk B3 (rca ⟨⟨cubeOf c 0, p, [], i, h, o, 0, 0, 0⟩, none, 0, 0⟩) 65 wr.drew from Q0.out.drew)
      clear ZA
      generalize wr.drew = V0 at *
      refine seqRead 0 (v := _) rfl (by kernel_rfl) (by kernel_rfl) (by kernel_rfl) (fun _ _ _ h => h) rfl (fun w hSw => by go_simp <;> with_reducible rfl) hS ?_
      try simp only [Act.put, List.setIfInBounds_toArray, List.set_cons_zero, List.set_cons_succ]
      refine seqRead 1 (v := _) rfl (by kernel_rfl) (by kernel_rfl) (by kernel_rfl) (fun _ _ _ h => h) rfl (fun w hSw => by have c : w.cell? ⟨B4, 0, none⟩ = some (.int .i64 s1) := (cell_of_row w B4 0 _ _ _ hSw).trans rfl; go_simp <;> with_reducible rfl) hS ?_
      try simp only [Act.put, List.setIfInBounds_toArray, List.set_cons_zero, List.set_cons_succ]
      refine seqRead 2 (v := _) rfl (by kernel_rfl) (by kernel_rfl) (by kernel_rfl) (fun _ _ _ h => h) rfl (fun w hSw => by go_simp <;> with_reducible rfl) hS ?_
      try simp only [Act.put, List.setIfInBounds_toArray, List.set_cons_zero, List.set_cons_succ]
      refine seqRead 3 (v := _) rfl (by kernel_rfl) (by kernel_rfl) (by kernel_rfl) (fun _ _ _ h => h) rfl (fun w hSw => by have c : w.cell? ⟨B4, 1, none⟩ = some (.int .i64 s2) := (cell_of_row w B4 1 _ _ _ hSw).trans rfl; go_simp <;> with_reducible rfl) hS ?_
      try simp only [Act.put, List.setIfInBounds_toArray, List.set_cons_zero, List.set_cons_succ]
      refine seqRead 4 (v := _) rfl (by kernel_rfl) (by kernel_rfl) (by kernel_rfl) (fun _ _ _ h => h) rfl (fun w hSw => by go_simp <;> with_reducible rfl) hS ?_
      try simp only [Act.put, List.setIfInBounds_toArray, List.set_cons_zero, List.set_cons_succ]
      refine seqRead 5 (v := _) rfl (by kernel_rfl) (by kernel_rfl) (by kernel_rfl) (fun _ _ _ h => h) rfl (fun w hSw => by have c : w.cell? ⟨B4, 2, none⟩ = some (.int .i64 s3) := (cell_of_row w B4 2 _ _ _ hSw).trans rfl; go_simp <;> with_reducible rfl) hS ?_
      try simp only [Act.put, List.setIfInBounds_toArray, List.set_cons_zero, List.set_cons_succ]
      refine seqRead 6 (v := _) rfl (by kernel_rfl) (by kernel_rfl) (by kernel_rfl) (fun _ _ _ h => h) rfl (fun w hSw => by go_simp <;> with_reducible rfl) hS ?_
      try simp only [Act.put, List.setIfInBounds_toArray, List.set_cons_zero, List.set_cons_succ]
      refine seqCall 7 rfl (by kernel_rfl) rfl (fun K hK => ?_)
      refine storeCellWp 3 _ _ rfl B3 29 (.int .i64 s1) rfl rfl rfl (Q0.out.there (by rw [rca_size]; decide)) infoInt ?_
      have Q1 := Lib.hid (show Blk B3 (rca ⟨⟨cubeOf c 0, p, [], i, h, o, s1, 0, 0⟩, none, 0, 0⟩) 65 (V0.setCell ⟨B3, 29, none⟩ (.int .i64 s1)) from Blk.oneTo Q0.out (rca29 _ _))
      have Q1s := Lib.hid (RdS.cset (g := B3) (k := 29) (v := .int .i64 s1) HSa.out (by have := HB.out; omega))
      have Q1t := Lib.hid (RStep.cset (g := B3) (k := 29) (v := .int .i64 s1) HTa.out HL.out (by have := HB.out; omega))
      have Q1r := Lib.hid (RZa.out.cother (g := B3) (k := 29) (by have := HB.out; omega) (.int .i64 s1))
      refine hK.out _ _ (Blk.cother (g := B3) (k := 29) hS (by have := HB.out; omega) (.int .i64 s1)) (fun hS => ?_)
      clear hK K
      have HSb := Lib.hid Q1s.out
      have HTb := Lib.hid Q1t.out
      have RZb := Lib.hid Q1r.out
      clear Q1s Q1t Q1r
      generalize V0.setCell ⟨B3, 29, none⟩ (.int .i64 s1) = V1 at *
      try simp only [Act.put]
      refine seqRead 8 (v := _) rfl (by kernel_rfl) (by kernel_rfl) (by kernel_rfl) (fun _ _ _ h => h) rfl (fun w hSw => by go_simp <;> with_reducible rfl) hS ?_
      try simp only [Act.put, List.setIfInBounds_toArray, List.set_cons_zero, List.set_cons_succ]
      refine seqCall 9 rfl (by kernel_rfl) rfl (fun K hK => ?_)
      refine storeCellWp 3 _ _ rfl B3 30 (.int .i64 s2) rfl rfl rfl (Q1.out.there (by rw [rca_size]; decide)) infoInt ?_
      have Q2 := Lib.hid (show Blk B3 (rca ⟨⟨cubeOf c 0, p, [], i, h, o, s1, s2, 0⟩, none, 0, 0⟩) 65 (V1.setCell ⟨B3, 30, none⟩ (.int .i64 s2)) from Blk.oneTo Q1.out (rca30 _ _))
      have Q2s := Lib.hid (RdS.cset (g := B3) (k := 30) (v := .int .i64 s2) HSb.out (by have := HB.out; omega))
      have Q2t := Lib.hid (RStep.cset (g := B3) (k := 30) (v := .int .i64 s2) HTb.out HL.out (by have := HB.out; omega))
      have Q2r := Lib.hid (RZb.out.cother (g := B3) (k := 30) (by have := HB.out; omega) (.int .i64 s2))
      refine hK.out _ _ (Blk.cother (g := B3) (k := 30) hS (by have := HB.out; omega) (.int .i64 s2)) (fun hS => ?_)
      clear hK K
      have HSc := Lib.hid Q2s.out
      have HTc := Lib.hid Q2t.out
      have RZc := Lib.hid Q2r.out
      clear Q2s Q2t Q2r
      generalize V1.setCell ⟨B3, 30, none⟩ (.int .i64 s2) = V2 at *
      try simp only [Act.put]
      refine seqRead 10 (v := _) rfl (by kernel_rfl) (by kernel_rfl) (by kernel_rfl) (fun _ _ _ h => h) rfl (fun w hSw => by go_simp <;> with_reducible rfl) hS ?_
      try simp only [Act.put, List.setIfInBounds_toArray, List.set_cons_zero, List.set_cons_succ]
      refine seqCall 11 rfl (by kernel_rfl) rfl (fun K hK => ?_)
      refine storeCellWp 3 _ _ rfl B3 31 (.int .i64 s3) rfl rfl rfl (Q2.out.there (by rw [rca_size]; decide)) infoInt ?_
      have Q3 := Lib.hid (show Blk B3 (rca ⟨⟨cubeOf c 0, p, [], i, h, o, s1, s2, s3⟩, none, 0, 0⟩) 65 (V2.setCell ⟨B3, 31, none⟩ (.int .i64 s3)) from Blk.oneTo Q2.out (rca31 _ _))
      have Q3s := Lib.hid (RdS.cset (g := B3) (k := 31) (v := .int .i64 s3) HSc.out (by have := HB.out; omega))
      have Q3t := Lib.hid (RStep.cset (g := B3) (k := 31) (v := .int .i64 s3) HTc.out HL.out (by have := HB.out; omega))
      have Q3r := Lib.hid (RZc.out.cother (g := B3) (k := 31) (by have := HB.out; omega) (.int .i64 s3))
      refine hK.out _ _ (Blk.cother (g := B3) (k := 31) hS (by have := HB.out; omega) (.int .i64 s3)) (fun hS => ?_)
      clear hK K
      have HSd := Lib.hid Q3s.out
      have HTd := Lib.hid Q3t.out
      have RZd := Lib.hid Q3r.out
      clear Q3s Q3t Q3r
      generalize V2.setCell ⟨B3, 31, none⟩ (.int .i64 s3) = V3 at *
      try simp only [Act.put]
      refine seqDone (by kernel_rfl) ?_
      clear hS
      have HC8 := Lib.hid (racts_read w0 b x8 V3 HSd.out)
      rw [E8.out] at HC8
      have HL8 := Lib.hid (show B3 < V3.heap.size ∧ w.heap.size < V3.heap.size from ⟨Q3.out.lt, RZd.out.lt⟩)
      go_wp2_with (go_at_call 77; refine HC8.out.mono ?_; rintro e v4 ⟨v, rfl, ho, hs, ht⟩; refine Hid.out ?_)
      obtain ⟨qa, ca, rfl⟩ := ho.form
      have HO := Lib.hid ho
      have HSe := Lib.hid hs
      have HTe := Lib.hid (HTd.out.trans ht)
      have RZe := Lib.hid (ht.blk RZd.out (by have := HB.out; omega))
      have Q4 := Lib.hid (ht.blk Q3.out (by have := HB.out; omega))
      clear ho hs ht HC8 HSd HTd RZd Q3
      refine Lib.hid ?_
      go_wp2_with (refine storeCell rfl 28 _ _ rfl B3 25 (.slice qa ac.length ca) rfl rfl rfl (Q4.out.there (by rw [rca_size]; decide)) infoActs ?_; refine Hid.out ?_)
      have Q5 := Lib.hid (show Blk B3 (rca ⟨⟨cubeOf c 0, p, ac, i, h, o, s1, s2, s3⟩, qa, ac.length, ca⟩) 65 (v4.setCell ⟨B3, 25, none⟩ (.slice qa ac.length ca)) from Blk.oneTo Q4.out (rca_acts _ _ _ _))
      have HO5 := Lib.hid (HO.out.cset (g := B3) (k := 25) (x := .slice qa ac.length ca) HL8.out.1)
      have HSf := Lib.hid (RdS.cset (g := B3) (k := 25) (v := .slice qa ac.length ca) HSe.out (by have := HB.out; omega))
      have HTf := Lib.hid (RStep.cset (g := B3) (k := 25) (v := .slice qa ac.length ca) HTe.out HL.out (by have := HB.out; omega))
      have RZf := Lib.hid (RZe.out.cother (g := B3) (k := 25) (by have := HB.out; omega) (.slice qa ac.length ca))
      clear Q4 HO HSe HTe RZe
      generalize v4.setCell ⟨B3, 25, none⟩ (.slice qa ac.length ca) = V5 at *
      refine Lib.hid ?_
      go_wp2_with (first
        | (refine wpList_load_row rfl 65 _ rfl B3 rfl 65 (rca ⟨⟨cubeOf c 0, p, ac, i, h, o, s1, s2, s3⟩, qa, ac.length, ca⟩) (0, 0) _ Q5.out Tryd.underlying65 rfl infoR ?_)
        | (refine wpList_store_row rfl 65 _ _ rfl w.heap.size (rca ⟨⟨cubeOf c 0, p, ac, i, h, o, s1, s2, s3⟩, qa, ac.length, ca⟩) rfl rfl 65 _ RZf.out (by kernel_rfl) rfl (rca_one _) ?_))
      refine bodyPost_ret (v := .agg (rca ⟨⟨cubeOf c 0, p, ac, i, h, o, s1, s2, s3⟩, qa, ac.length, ca⟩)) ?_ rfl ⟨_, rfl, by rw [HN1.out, HN2.out, HN3.out], KOwns.mono (HO5.out.rset HL8.out.2) (Nat.le_of_lt HL8.out.2), HSf.out.rset HL.out, HTf.out.rset HL.out (Nat.le_refl _)⟩
      exact res_one Tryd.results78 (cs := rca ⟨⟨cubeOf c 0, p, ac, i, h, o, s1, s2, s3⟩, qa, ac.length, ca⟩) rfl (RZf.out.rset _) Tryd.underlying65 rfl (by kernel_rfl)
end Go.Proofs.YtndgbgolmpoepaaDoor
