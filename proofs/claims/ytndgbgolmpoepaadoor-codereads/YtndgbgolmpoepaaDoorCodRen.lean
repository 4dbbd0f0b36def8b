/-
  The reference's heads and acts: bytes of matches and of actions.
-/
import Derived.Test.YtndgbgolmpoepaaDoorCodNum
namespace Go.Proofs.YtndgbgolmpoepaaDoor
set_option maxRecDepth 20000
open Go.RowKit

/-- a list of bytes that grows, behind a box -/
def OuS (w : World) (cs : Array Value) (T : TypeId) (v : Value) (l : List Int) (W : World) : Prop := Blk w.heap.size cs T W ∧ KOwns KB (w.heap.size + 1) v l W ∧ Below w.heap.size w W
section
variable {w W W' : World} {cs : Array Value} {T : TypeId} {v v' : Value} {l l' : List Int}
theorem OuS.below (h : OuS w cs T v l W) (hb : Below W.heap.size W W') : OuS w cs T v l W' := ⟨h.1.below hb, h.2.1.below hb, h.2.2.trans (hb.mono h.2.2.size)⟩
theorem OuS.le (h : OuS w cs T v l W) : w.heap.size + 1 ≤ W.heap.size := h.1.lt
theorem OuS.grow (h : OuS w cs T v l W) (ho : KOwns KB (w.heap.size + 1) v' l' W') (hg : W.grownBy W' v.ownBlock) : OuS w cs T v' l' W' :=
  ⟨h.1.grown h.2.1 (Nat.lt_succ_self _) hg, ho, h.2.2.grown hg h.2.2.size fun k e => by have := h.2.1.ge k e; omega⟩
theorem OuS.ret (h : OuS w cs T v l W) : OwnRet KB w l (.returned v) W := ⟨v, rfl, h.2.1.mono (Nat.le_succ _), h.2.2⟩
end
theorem kappendO {ops : Array Oper} {rest : List Oper} {o : Oper} {a : Act} {w W : World} {Q : Exit → Act → World → Prop} {cs : Array Value} {T : TypeId} {v u : Value} {l k : List Int} (hgd : o.guard = none) (s x : Operand)
    (ho : o.op = .call { callee := .builtin .append, args := #[s, x], argTypes := #[36, 36] }) (hO : OuS w cs T v l W) (hs : a.eval s = v) (hx : a.eval x = u) (hk : KLies KB u k W) (hlen : l.length + k.length ≤ 1000000000)
    (h : ∀ v' W', OuS w cs T v' (l ++ k) W' → wpList Tryd.prog ops Q rest (a.put o.dst v') W') : wpList Tryd.prog ops Q (o :: rest) a W :=
  kappendB KB okB hgd s x ho (w.heap.size + 1) v l k hs hO.2.1 u hx hk hO.le (by show (l.length + k.length) * 1 ≤ _; omega) fun v' W' h1 h2 => h v' W' (hO.grow h1 h2)
theorem kbyteL {ops : Array Oper} {rest : List Oper} {o : Oper} {a : Act} {w : World} {Q : Exit → Act → World → Prop} (hg : o.guard = none) (y : Operand) (ho : o.op = .buildSlice 36 1 #[(0, y)]) (x : Int) (hy : a.eval y = .int .u8 x)
    (h : wpList Tryd.prog ops Q rest (a.put o.dst (.slice (some ⟨w.heap.size, 0, none⟩) 1 1)) (w.alloc (.cells #[.int .u8 x] 5))) : wpList Tryd.prog ops Q (o :: rest) a w :=
  kbuild KB okB 1 #[.int .u8 0] zeroB hg _ ho [(0, .int .u8 x)] (by simp [hy]) #[.int .u8 x] (by decide) (by decide) (fillB x) h
theorem byteLies (w : World) (x : Int) : KLies KB (.slice (some ⟨w.heap.size, 0, none⟩) 1 1) (numB 1 x) (w.alloc (.cells #[.int .u8 (x % 256)] 5)) := Blk.klies (K := KB) (l := [x % 256]) (Blk.new w #[Value.int .u8 (x % 256)] KB.T) okB rfl
set_option maxHeartbeats 4000000 in
theorem heads_any (m : Nat → Int) (hw : Wf m) (p i h ow : Int) (hp : 0 ≤ p ∧ p < 65536) (hi : 0 ≤ i ∧ i < 4294967296) (hh : 0 ≤ h ∧ h < 4294967296) (w : World) :
    Calls Tryd.prog 33 #[.agg (cc m), .int .i64 p, .int .i64 i, .int .i64 h, .int .i64 ow] w (OwnRet KB w (encN (cubeN m) ++ numB 2 p ++ numB 4 i ++ numB 4 h ++ numB 1 ow)) := by
  have HS := Lib.hid (show OuS w (cc m) 27 (.slice none 0 0) [] (w.alloc (.cells (cc m) 27)) from ⟨Blk.new _ _ _, KOwns.nil _ _, below1 _ _⟩)
  have HW := Lib.hid hw
  have HP := Lib.hid (And.intro hp (And.intro hi hh))
  clear hw hp hi hh
  go_enter Tryd.func33, Tryd.ntmps33
  go_upto_region 2 with fail
  generalize w.alloc (.cells (cc m) 27) = W at *
  go_wp2_with fail
  go_loopg [12, 11] 12 (fun q ix v wr => ∃ r : Nat, r + q = 12 ∧ ix = .int .i64 r ∧ OuS w (cc m) 27 v (encN ((List.range r).map fun j => (8, m j))) wr)
  case atStart => exact ⟨0, by omega, rfl, HS.out⟩
  case round =>
    clear HS
    obtain ⟨r, hr, rfl, hs⟩ := hrel
    have HS := Lib.hid hs
    clear hs
    by_cases hlt : r < 12
    · have hltI : (r : Int) < 12 := by omega
      have k0 := cellC HS.out.1 (show r < 24 by omega)
      have HC := Lib.hid (num_any (m r) (HW.out r).1 (HW.out r).2 8 (by decide) wr)
      go_wp2_with (first
        | (go_at_call 32; refine HC.out.mono ?_; rintro e w1 ⟨u, rfl, hu, hb⟩; refine Hid.out ?_))
      have HA := Lib.hid (HS.out.below hb)
      have HU := Lib.hid (hu.lies okB)
      clear hu hb HC HS k0
      refine Lib.hid ?_
      go_wp2_with (refine kappendO rfl _ _ rfl HA.out rfl rfl HU.out (by rw [rangeN_len, numB_len]; omega) (fun v2 W2 hO => ?_); refine Hid.out ?_)
      have HS2 := Lib.hid hO
      clear hO HA HU
      refine Lib.hid ?_
      go_wp2_with fail
      go_roundg (12 - (r + 1))
      case measure => omega
      case rel => exact ⟨r + 1, by omega, by go_num, by rw [rangeN_snoc]; exact HS2.out⟩
    · obtain rfl : r = 12 := by omega
      go_wp2_with fail
      go_loopg [13, 11] 12 (fun q ix v wr => ∃ r : Nat, r + q = 12 ∧ ix = .int .i64 r ∧ OuS w (cc m) 27 v (encN (headN m) ++ encN ((List.range r).map fun j => (8, care m j))) wr)
      case atStart => exact ⟨0, by omega, rfl, by show OuS w (cc m) 27 _ (encN (headN m) ++ []) _; rw [List.append_nil]; exact HS.out⟩
      case round =>
        clear HS
        obtain ⟨r, hr, rfl, hs⟩ := hrel
        have HS := Lib.hid hs
        clear hs
        by_cases hlt : r < 12
        · have hltI : (r : Int) < 12 := by omega
          have k0 := cellC HS.out.1 (show 12 + r < 24 by omega)
          have HC := Lib.hid (num_any (care m r) (wfCare HW.out r).1 (wfCare HW.out r).2 8 (by decide) wr)
          go_wp2_with (first
            | (go_at_call 32; refine HC.out.mono ?_; rintro e w1 ⟨u, rfl, hu, hb⟩; refine Hid.out ?_))
          have HA := Lib.hid (HS.out.below hb)
          have HU := Lib.hid (hu.lies okB)
          clear hu hb HC HS k0
          refine Lib.hid ?_
          go_wp2_with (refine kappendO rfl _ _ rfl HA.out rfl rfl HU.out (by rw [List.length_append, rangeN_len, headN_len, numB_len]; omega) (fun v2 W2 hO => ?_); refine Hid.out ?_)
          have HS2 := Lib.hid hO
          clear hO HA HU
          refine Lib.hid ?_
          go_wp2_with fail
          go_roundg (12 - (r + 1))
          case measure => omega
          case rel => exact ⟨r + 1, by omega, by go_num, by rw [rangeN_snoc, ← List.append_assoc]; exact HS2.out⟩
        · obtain rfl : r = 12 := by omega
          obtain ⟨P, hP⟩ : ∃ P, P = encN (cubeN m) := ⟨_, rfl⟩
          rw [← hP]
          have HS0 := Lib.hid (show OuS w (cc m) 27 _ P _ by rw [hP, cubeN_split, encN_app]; exact HS.out)
          have HPl := Lib.hid (show P.length = 192 by rw [hP, cubeN_len])
          have HPe := Lib.hid hP
          clear HS hP
          have hw1 : IntKind.u64.wrap p = p := by rw [IntKind.wrap_u64]; have := HP.out; omega
          have hw2 : IntKind.u64.wrap i = i := by rw [IntKind.wrap_u64]; have := HP.out; omega
          have hw3 : IntKind.u64.wrap h = h := by rw [IntKind.wrap_u64]; have := HP.out; omega
          have HC0 := Lib.hid (num_any p HP.out.1.1 (by have := HP.out.1.2; omega) 2 (by decide) wr)
          go_wp2_with (first
            | (go_at_call 32; refine HC0.out.mono ?_; rintro e w1 ⟨u, rfl, hu, hb⟩; refine Hid.out ?_))
          have HA := Lib.hid (HS0.out.below hb)
          have HU := Lib.hid (hu.lies okB)
          clear hu hb HC0 HS0
          refine Lib.hid ?_
          go_wp2_with (refine kappendO rfl _ _ rfl HA.out rfl rfl HU.out (by rw [numB_len, HPl.out]; omega) (fun v2 V1 hO => ?_); refine Hid.out ?_)
          have HS1 := Lib.hid hO
          clear hO HA HU
          refine Lib.hid ?_
          have HC1 := Lib.hid (num_any i HP.out.2.1.1 (by have := HP.out.2.1.2; omega) 4 (by decide) V1)
          go_wp2_with (first
            | (go_at_call 32; refine HC1.out.mono ?_; rintro e w1 ⟨u, rfl, hu, hb⟩; refine Hid.out ?_))
          have HA := Lib.hid (HS1.out.below hb)
          have HU := Lib.hid (hu.lies okB)
          clear hu hb HC1 HS1
          refine Lib.hid ?_
          go_wp2_with (refine kappendO rfl _ _ rfl HA.out rfl rfl HU.out (by simp only [List.length_append, numB_len, HPl.out]; omega) (fun v2 V2 hO => ?_); refine Hid.out ?_)
          have HS2 := Lib.hid hO
          clear hO HA HU
          refine Lib.hid ?_
          have HC2 := Lib.hid (num_any h HP.out.2.2.1 (by have := HP.out.2.2.2; omega) 4 (by decide) V2)
          go_wp2_with (first
            | (go_at_call 32; refine HC2.out.mono ?_; rintro e w1 ⟨u, rfl, hu, hb⟩; refine Hid.out ?_))
          have HA := Lib.hid (HS2.out.below hb)
          have HU := Lib.hid (hu.lies okB)
          clear hu hb HC2 HS2
          refine Lib.hid ?_
          go_wp2_with (refine kappendO rfl _ _ rfl HA.out rfl rfl HU.out (by simp only [List.length_append, numB_len, HPl.out]; omega) (fun v2 V3 hO => ?_); refine Hid.out ?_)
          have HS3 := Lib.hid hO
          clear hO HA HU
          refine Lib.hid ?_
          go_wp2_with (refine kbyteL rfl _ rfl (ow % 256) rfl ?_; refine Hid.out ?_)
          have HA := Lib.hid (HS3.out.below (below1 V3 (.cells #[.int .u8 (ow % 256)] 5)))
          have HU := Lib.hid (byteLies V3 ow)
          clear HS3
          generalize V3.heap.size = B5 at *
          generalize V3.alloc (.cells #[.int .u8 (ow % 256)] 5) = W5 at *
          refine Lib.hid ?_
          go_wp2_with (refine kappendO rfl _ _ rfl HA.out rfl rfl HU.out (by simp only [List.length_append, numB_len, HPl.out]; omega) (fun v9 W9 hO => ?_); refine Hid.out ?_)
          have HS9 := Lib.hid hO
          clear hO HA HU
          refine Lib.hid ?_
          go_wp2_with fail
          go_ret
          have := HS9.out.ret
          rw [HPe.out] at this
          exact this
theorem fillB3 (x y z : Int) : Instr.fill (fun i' => some (i' * 1, 1)) ((Array.range (3 * 1)).map ((#[Value.int .u8 0] : Array Value)[· % (#[Value.int .u8 0] : Array Value).size]!)) [(0, .int .u8 x), (1, .int .u8 y), (2, .int .u8 z)] = some #[.int .u8 x, .int .u8 y, .int .u8 z] := by kernel_rfl
theorem kbyte3Wp {o : Oper} {a : Act} {w : World} {Kt : Act → World → Prop} {Q : Exit → Act → World → Prop} (y0 y1 y2 : Operand) (ho : o.op = .buildSlice KB.S 3 #[(0, y0), (1, y1), (2, y2)]) (x0 x1 x2 : Int) (h0 : a.eval y0 = .int .u8 x0) (h1 : a.eval y1 = .int .u8 x1) (h2 : a.eval y2 = .int .u8 x2)
    (h : Kt (a.put o.dst (.slice (some ⟨w.heap.size, 0, none⟩) 3 3)) (w.alloc (.cells #[.int .u8 x0, .int .u8 x1, .int .u8 x2] KB.T))) : o.wp Tryd.prog a w Kt Q :=
  kbuildVWp KB okB #[.int .u8 0] zeroB 3 _ ho [(0, .int .u8 x0), (1, .int .u8 x1), (2, .int .u8 x2)] (by simp [h0, h1, h2]) #[.int .u8 x0, .int .u8 x1, .int .u8 x2] (by decide) (by decide) (fillB3 x0 x1 x2) h
theorem byteOwn (w : World) (x : Int) : KOwns KB w.heap.size (.slice (some ⟨w.heap.size, 0, none⟩) 1 1) [x] (w.alloc (.cells #[.int .u8 x] 5)) :=
  KAt.owns okB (l := [x]) (show KAt KB w.heap.size 1 [x] _ from ⟨Nat.le_refl _, by unfold maxLen; omega, #[.int .u8 x], heap_alloc_new _ _, rfl, fun i a hi j u hu => by
    have h1 : i = 0 := by have := (List.getElem?_eq_some_iff.1 hi).1; simpa using this
    subst h1
    have h2 : x = a := by simpa using hi
    subst h2
    have h3 : j = 0 := by have := (List.getElem?_eq_some_iff.1 hu).1; simpa using this
    subst h3
    have h4 : Value.int .u8 x = u := by simpa using hu
    rw [← h4]
    rfl⟩) (Nat.le_refl _)
/-- a list of bytes that grows -/
def OwB (w : World) (v : Value) (l : List Int) (W : World) : Prop := KOwns KB w.heap.size v l W ∧ Below w.heap.size w W
section
variable {w W W' : World} {v v' : Value} {l l' : List Int}
theorem OwB.below (h : OwB w v l W) (hb : Below W.heap.size W W') : OwB w v l W' := ⟨h.1.below hb, h.2.trans (hb.mono h.2.size)⟩
theorem OwB.grow (h : OwB w v l W) (ho : KOwns KB w.heap.size v' l' W') (hg : W.grownBy W' v.ownBlock) : OwB w v' l' W' := ⟨ho, h.2.grown hg h.2.size fun k e => h.1.ge k e⟩
end
theorem kappendW {ops : Array Oper} {rest : List Oper} {o : Oper} {a : Act} {w W : World} {Q : Exit → Act → World → Prop} {v u : Value} {l k : List Int} (hgd : o.guard = none) (s x : Operand)
    (ho : o.op = .call { callee := .builtin .append, args := #[s, x], argTypes := #[36, 36] }) (hO : OwB w v l W) (hs : a.eval s = v) (hx : a.eval x = u) (hk : KLies KB u k W) (hlen : l.length + k.length ≤ 1000000000)
    (h : ∀ v' W', OwB w v' (l ++ k) W' → wpList Tryd.prog ops Q rest (a.put o.dst v') W') : wpList Tryd.prog ops Q (o :: rest) a W :=
  kappendB KB okB hgd s x ho w.heap.size v l k hs hO.1 u hx hk hO.2.size (by show (l.length + k.length) * 1 ≤ _; omega) fun v' W' h1 h2 => h v' W' (hO.grow h1 h2)
set_option maxHeartbeats 4000000 in
theorem eacts_any (v : Value) (L : List Ac) (hf : FitA L) (w : World) (hl : KLies KA v L w) :
    Calls Tryd.prog 34 #[v] w (OwnRet KB w (encA L)) := by
  obtain ⟨p, cap, rfl⟩ := hl.form
  have HL := Lib.hid hl
  have HF := Lib.hid hf.2
  have hL := hf.1
  have hb8 : IntKind.u8.wrap (L.length : Int) = (L.length : Int) % 256 := byte_of _
  clear hl hf
  go_enter Tryd.func34, Tryd.ntmps34
  go_wp2_with (refine kbyteL rfl _ rfl ((L.length : Int) % 256) (by first | rfl | exact congrArg (Value.int IntKind.u8) hb8 | (simp only [Act.eval]; congr 1; omega)) ?_; refine Hid.out ?_)
  have HA := Lib.hid (show OwB w (.slice (some ⟨w.heap.size, 0, none⟩) 1 1) (numB 1 (L.length : Int)) (w.alloc (.cells #[.int .u8 ((L.length : Int) % 256)] 5)) from ⟨byteOwn w _, below1 _ _⟩)
  clear hb8
  generalize w.alloc (.cells #[.int .u8 ((L.length : Int) % 256)] 5) = W at *
  refine Lib.hid ?_
  go_wp2_with fail
  go_loopg [4, 3] L.length (fun q ix ov wr => ∃ r : Nat, r + q = L.length ∧ ix = .int .i64 r ∧ OwB w ov (numB 1 (L.length : Int) ++ (L.take r).flatMap fun a => encN (actN a)) wr)
  case atStart => exact ⟨0, by omega, rfl, by show OwB w _ (numB 1 (L.length : Int) ++ []) W; rw [List.append_nil]; exact HA.out⟩
  case round =>
    clear HA
    obtain ⟨r, hr, rfl, hs⟩ := hrel
    obtain ⟨L0, hY⟩ : ∃ Y, Y = numB 1 (L.length : Int) ++ (L.take r).flatMap fun a => encN (actN a) := ⟨_, rfl⟩
    rw [← hY] at hs
    obtain ⟨po, co, rfl⟩ := hs.1.form
    have HA0 := Lib.hid hs
    have HYY := Lib.hid hY
    clear hs hY
    by_cases hlt : r < L.length
    · have hltI : (r : Int) < (L.length : Int) := by omega
      obtain ⟨x, hx⟩ := lt_some hlt
      obtain ⟨bb, o, rfl, _⟩ := HL.out.at hx
      have HX := Lib.hid hx
      have hlx : ((L.take r).flatMap fun a => encN (actN a)).length ≤ r * 11 := by
        have := acts11 (L.take r)
        rw [List.length_take] at this
        rw [Nat.min_eq_left (by omega)] at this
        exact this
      have hYl : L0.length + 11 ≤ 1000000 := by rw [HYY.out, List.length_append, numB_len]; omega
      have HY := Lib.hid (show numB 1 (L.length : Int) ++ ((L.take (r + 1)).flatMap fun a => encN (actN a)) = L0 ++ [x.k % 256, x.p % 256, x.f % 256] ++ numB 8 x.v by rw [flatM_snoc _ hx, ← List.append_assoc, ← HYY.out, actN_enc]; simp [numB])
      obtain ⟨_, hv⟩ := act_rng (HF.out x (List.mem_of_getElem? hx))
      have HV := Lib.hid hv
      clear hx hlx hv
      have b1 := byte_of x.k
      have b2 := byte_of x.p
      have b3 := byte_of x.f
      go_upto_region 5 with fail
      refine wp_region_held_drew (S := Below w.heap.size w) (by kernel_rfl) HA0.out.2.drew (fun hS => ?_)
      have HA0 := Lib.hid (HA0.out.below (Below.refl _ wr).drew)
      generalize wr.drew = W at *
      refine seqRead 0 (v := _) rfl (by kernel_rfl) (by kernel_rfl) (by kernel_rfl) (fun _ _ _ h => h) rfl (fun w hSw => by go_simp <;> with_reducible rfl) hS ?_
      try simp only [Act.put, List.setIfInBounds_toArray, List.set_cons_zero, List.set_cons_succ]
      refine seqRead 1 (v := _) rfl (by kernel_rfl) (by kernel_rfl) (by kernel_rfl) (fun _ _ _ h => h) rfl (fun w hSw => by go_simp <;> with_reducible rfl) hS ?_
      try simp only [Act.put, List.setIfInBounds_toArray, List.set_cons_zero, List.set_cons_succ]
      refine seqRead 2 (v := _) rfl (by kernel_rfl) (by kernel_rfl) (by kernel_rfl) (fun _ _ _ h => h) rfl (fun w hSw => by go_simp <;> with_reducible rfl) hS ?_
      try simp only [Act.put, List.setIfInBounds_toArray, List.set_cons_zero, List.set_cons_succ]
      refine seqRead 3 (v := _) rfl (by kernel_rfl) (by kernel_rfl) (by kernel_rfl) (fun _ _ _ h => h) rfl (fun w hSw => by go_simp <;> with_reducible rfl) hS ?_
      try simp only [Act.put, List.setIfInBounds_toArray, List.set_cons_zero, List.set_cons_succ]
      refine seqRead 4 (v := _) rfl (by kernel_rfl) (by kernel_rfl) (by kernel_rfl) (fun _ _ _ h => h) rfl (fun w hSw => by go_simp <;> with_reducible rfl) hS ?_
      try simp only [Act.put, List.setIfInBounds_toArray, List.set_cons_zero, List.set_cons_succ]
      refine seqRead 5 (v := _) rfl (by kernel_rfl) (by kernel_rfl) (by kernel_rfl) (fun _ _ _ h => h) rfl (fun w hSw => by obtain ⟨c0, c1, c2, _⟩ := cellsA ((HL.out.below okA hSw).at' HX.out); go_simp <;> with_reducible rfl) hS ?_
      try simp only [Act.put, List.setIfInBounds_toArray, List.set_cons_zero, List.set_cons_succ]
      refine seqRead 6 (v := _) rfl (by kernel_rfl) (by kernel_rfl) (by kernel_rfl) (fun _ _ _ h => h) rfl (fun w hSw => by go_simp <;> with_reducible rfl) hS ?_
      try simp only [Act.put, List.setIfInBounds_toArray, List.set_cons_zero, List.set_cons_succ]
      refine seqRead 7 (v := _) rfl (by kernel_rfl) (by kernel_rfl) (by kernel_rfl) (fun _ _ _ h => h) rfl (fun w hSw => by go_simp <;> with_reducible rfl) hS ?_
      try simp only [Act.put, List.setIfInBounds_toArray, List.set_cons_zero, List.set_cons_succ]
      refine seqRead 8 (v := _) rfl (by kernel_rfl) (by kernel_rfl) (by kernel_rfl) (fun _ _ _ h => h) rfl (fun w hSw => by go_simp <;> with_reducible rfl) hS ?_
      try simp only [Act.put, List.setIfInBounds_toArray, List.set_cons_zero, List.set_cons_succ]
      refine seqRead 9 (v := _) rfl (by kernel_rfl) (by kernel_rfl) (by kernel_rfl) (fun _ _ _ h => h) rfl (fun w hSw => by go_simp <;> with_reducible rfl) hS ?_
      try simp only [Act.put, List.setIfInBounds_toArray, List.set_cons_zero, List.set_cons_succ]
      refine seqRead 10 (v := _) rfl (by kernel_rfl) (by kernel_rfl) (by kernel_rfl) (fun _ _ _ h => h) rfl (fun w hSw => by go_simp <;> with_reducible rfl) hS ?_
      try simp only [Act.put, List.setIfInBounds_toArray, List.set_cons_zero, List.set_cons_succ]
      refine seqRead 11 (v := _) rfl (by kernel_rfl) (by kernel_rfl) (by kernel_rfl) (fun _ _ _ h => h) rfl (fun w hSw => by obtain ⟨c0, c1, c2, _⟩ := cellsA ((HL.out.below okA hSw).at' HX.out); go_simp <;> with_reducible rfl) hS ?_
      try simp only [Act.put, List.setIfInBounds_toArray, List.set_cons_zero, List.set_cons_succ]
      refine seqRead 12 (v := _) rfl (by kernel_rfl) (by kernel_rfl) (by kernel_rfl) (fun _ _ _ h => h) rfl (fun w hSw => by go_simp <;> with_reducible rfl) hS ?_
      try simp only [Act.put, List.setIfInBounds_toArray, List.set_cons_zero, List.set_cons_succ]
      refine seqRead 13 (v := _) rfl (by kernel_rfl) (by kernel_rfl) (by kernel_rfl) (fun _ _ _ h => h) rfl (fun w hSw => by go_simp <;> with_reducible rfl) hS ?_
      try simp only [Act.put, List.setIfInBounds_toArray, List.set_cons_zero, List.set_cons_succ]
      refine seqRead 14 (v := _) rfl (by kernel_rfl) (by kernel_rfl) (by kernel_rfl) (fun _ _ _ h => h) rfl (fun w hSw => by go_simp <;> with_reducible rfl) hS ?_
      try simp only [Act.put, List.setIfInBounds_toArray, List.set_cons_zero, List.set_cons_succ]
      refine seqRead 15 (v := _) rfl (by kernel_rfl) (by kernel_rfl) (by kernel_rfl) (fun _ _ _ h => h) rfl (fun w hSw => by go_simp <;> with_reducible rfl) hS ?_
      try simp only [Act.put, List.setIfInBounds_toArray, List.set_cons_zero, List.set_cons_succ]
      refine seqRead 16 (v := _) rfl (by kernel_rfl) (by kernel_rfl) (by kernel_rfl) (fun _ _ _ h => h) rfl (fun w hSw => by go_simp <;> with_reducible rfl) hS ?_
      try simp only [Act.put, List.setIfInBounds_toArray, List.set_cons_zero, List.set_cons_succ]
      refine seqRead 17 (v := _) rfl (by kernel_rfl) (by kernel_rfl) (by kernel_rfl) (fun _ _ _ h => h) rfl (fun w hSw => by obtain ⟨c0, c1, c2, _⟩ := cellsA ((HL.out.below okA hSw).at' HX.out); go_simp <;> with_reducible rfl) hS ?_
      try simp only [Act.put, List.setIfInBounds_toArray, List.set_cons_zero, List.set_cons_succ]
      refine seqRead 18 (v := _) rfl (by kernel_rfl) (by kernel_rfl) (by kernel_rfl) (fun _ _ _ h => h) rfl (fun w hSw => by go_simp <;> with_reducible rfl) hS ?_
      try simp only [Act.put, List.setIfInBounds_toArray, List.set_cons_zero, List.set_cons_succ]
      refine seqCall 19 rfl (by kernel_rfl) rfl (fun K hK => ?_)
      refine kbyte3Wp (.tmp 21) (.tmp 27) (.tmp 33) rfl (x.k % 256) (x.p % 256) (x.f % 256) rfl rfl rfl ?_
      have HA1 := Lib.hid (HA0.out.below (below1 W (.cells #[.int .u8 (x.k % 256), .int .u8 (x.p % 256), .int .u8 (x.f % 256)] KB.T)))
      have HU := Lib.hid (Blk.klies (K := KB) (l := [x.k % 256, x.p % 256, x.f % 256]) (Blk.new W #[.int .u8 (x.k % 256), .int .u8 (x.p % 256), .int .u8 (x.f % 256)] KB.T) okB rfl)
      refine hK.out _ _ HA1.out.2 (fun hS => ?_)
      clear hK K
      generalize hv : W.alloc (.cells #[Value.int .u8 (x.k % 256), .int .u8 (x.p % 256), .int .u8 (x.f % 256)] KB.T) = W1 at *
      clear hv
      try simp only [Act.put, List.setIfInBounds_toArray, List.set_cons_zero, List.set_cons_succ]
      refine seqCall 20 rfl (by kernel_rfl) rfl (fun K hK => ?_)
      refine kappendWpB KB okB (.tmp 15) (.tmp 34) rfl w.heap.size (.slice po L0.length co) L0 [x.k % 256, x.p % 256, x.f % 256] rfl HA1.out.1 _ rfl HU.out HA1.out.2.size (by show (L0.length + 3) * 1 ≤ _; omega) (fun v2 W2 ho hg => ?_)
      have HA2 := Lib.hid (show OwB w v2 (L0 ++ [x.k % 256, x.p % 256, x.f % 256]) W2 from HA1.out.grow ho hg)
      refine hK.out _ _ HA2.out.2 (fun hS => ?_)
      clear hK K ho hg
      try simp only [Act.put, List.setIfInBounds_toArray, List.set_cons_zero, List.set_cons_succ]
      refine seqRead 21 (v := _) rfl (by kernel_rfl) (by kernel_rfl) (by kernel_rfl) (fun _ _ _ h => h) rfl (fun w hSw => by go_simp <;> with_reducible rfl) hS ?_
      try simp only [Act.put, List.setIfInBounds_toArray, List.set_cons_zero, List.set_cons_succ]
      refine seqDone (by kernel_rfl) ?_
      clear HA1 HA0 HU hS b1 b2 b3
      obtain ⟨_, _, _, k3⟩ := cellsA ((HL.out.below okA HA2.out.2).at' HX.out)
      have HC := Lib.hid (num_any x.v HV.out.1 HV.out.2 8 (by decide) W2)
      go_wp2_with (go_at_call 32; refine HC.out.mono ?_; rintro e w3 ⟨u, rfl, hu, hb⟩; refine Hid.out ?_)
      have HA3 := Lib.hid (HA2.out.below hb)
      have HU := Lib.hid (hu.lies okB)
      clear hu hb HC HA2 k3
      refine Lib.hid ?_
      go_wp2_with (refine kappendW rfl _ _ rfl HA3.out rfl rfl HU.out (by rw [List.length_append, numB_len]; show L0.length + 3 + 8 ≤ _; omega) (fun v4 W4 hO => ?_); refine Hid.out ?_)
      have HA4 := Lib.hid hO
      clear hO HA3 HU
      refine Lib.hid ?_
      go_wp2_with fail
      go_roundg (L.length - (r + 1))
      case measure => omega
      case rel => exact ⟨r + 1, by omega, by go_num, by rw [HY.out]; exact HA4.out⟩
    · have hltI : ¬ (r : Int) < (L.length : Int) := by omega
      obtain rfl : r = L.length := by omega
      go_wp2_with fail
      go_ret
      refine ⟨_, rfl, ?_, HA0.out.2⟩
      have := HA0.out.1
      rw [show L0 = encA L by rw [HYY.out, List.take_length]; rfl] at this
      rw [show L0 = encA L by rw [HYY.out, List.take_length]; rfl]
      exact this
end Go.Proofs.YtndgbgolmpoepaaDoor
