/-
  Slices of bytes in slices; slices.Grow and slices.Concat of bytes; Wrap.
-/
import Derived.Test.YtdcekbmoihmjkaaFrmRm
import Derived.Lib.AppendZeros
namespace Go.Proofs.Ytdcekbmoihmjkaa
set_option maxRecDepth 20000
open Go.RowKit

/-- bytes in memory: where they lie, the room, what they are -/
structure Bl where
  p : Option Addr
  c : Nat
  l : List Int
/-- slices of bytes -/
abbrev KL : Kd Bl := ⟨22, 35, 1, 24, fun a => [.slice a.p a.l.length a.c]⟩
theorem okL : KL.Ok where
  pos := by decide
  len := fun _ => rfl
  one := fun a u hu => by simp only [List.mem_cons, List.not_mem_nil, or_false] at hu; subst hu; rfl
  under := Try.underlying35
  info := infoOf (by kernel_rfl) (by kernel_rfl) (by kernel_rfl)
  small := by decide
  room1 := by decide
theorem zeroL : ((Try.prog.info? KL.T).bind (·.zero)).map (·.cells) = some #[Value.slice none 0 0] := by kernel_rfl
theorem fillB4 (a b c d : Int) : Instr.fill (fun i' => some (i' * 1, 1)) ((Array.range (4 * 1)).map ((#[Value.int .u8 0] : Array Value)[· % (#[Value.int .u8 0] : Array Value).size]!)) [(0, .int .u8 a), (1, .int .u8 b), (2, .int .u8 c), (3, .int .u8 d)] = some #[.int .u8 a, .int .u8 b, .int .u8 c, .int .u8 d] := by kernel_rfl
theorem fillL2 (p1 p2 : Option Addr) (n1 n2 c1 c2 : Nat) : Instr.fill (fun i' => some (i' * 1, 1)) ((Array.range (2 * 1)).map ((#[Value.slice none 0 0] : Array Value)[· % (#[Value.slice none 0 0] : Array Value).size]!)) [(0, .slice p1 n1 c1), (1, .slice p2 n2 c2)] = some #[.slice p1 n1 c1, .slice p2 n2 c2] := by kernel_rfl
/-- append of a make to nothing -/
theorem bgrowNil {ops : Array Oper} {rest : List Oper} {o : Oper} {a : Act} {w : World} {Q : Exit → Act → World → Prop} (hgd : o.guard = none) (s x : Operand) (ho : o.op = .call { callee := .builtin .append, args := #[s, x], argTypes := #[22, 3] })
    (n : Nat) (hn : 0 < n) (hlen : n ≤ 1000000) (hs : a.eval s = .slice none 0 0) (hx : a.eval x = .int .i64 (n : Int))
    (h : ∀ cap W, n ≤ cap → KOwns KB w.heap.size (.slice (some ⟨w.heap.size, 0, none⟩) 0 cap) [] W → Below w.heap.size w W → wpList Try.prog ops Q rest (a.put o.dst (.slice (some ⟨w.heap.size, 0, none⟩) n cap)) W) : wpList Try.prog ops Q (o :: rest) a w := by
  obtain ⟨i, z, hi, hz, hsz, hby, hcz⟩ := okB.info
  have hrun := Lib.run_append_nil_zeros (P := Try.prog) w 22 3 o.type 5 i z .i64 .i64 okB.under Try.underlying3 hi hz n hn (by rw [hsz]; decide) (by omega) (by rw [hby]; show n * 1 ≤ _; omega)
  have hge := grownCap_ge w n 0 5
  have hml := grownCap_le_maxLen w n 0 5 (by unfold maxLen; omega)
  refine wpList_plain hgd fun K hK => ?_
  unfold Oper.wp
  simp [execOp, ho, resolve, invoke, builtin, hs, hx, hrun, Result.andThen]
  refine hK _ _ (h _ _ hge ?_ ?_)
  · refine World.ownsRow_made w.drew _ _ (Nat.le_refl _) hml ?_
    have e : ∀ k, (Builtin.zeroCells z.cells k).size = k * 1 := fun k => by simp [Builtin.zeroCells, hcz]
    rw [Array.size_append, e, e]
    show n * 1 + (grownCap w n 0 5 - n) * 1 = grownCap w n 0 5 * 1
    omega
  · exact (Below.refl w.heap.size w).drew.alloc (Nat.le_refl _) _
/-- room for bytes -/
def BgRet (w : World) (e : Ending) (w' : World) : Prop := ∃ v, e = .returned v ∧ KOwns KB w.heap.size v [] w' ∧ Below w.heap.size w w'
set_option maxHeartbeats 1000000 in
theorem bgrow_any (n : Nat) (hlen : n ≤ 1000000) (w : World) : Calls Try.prog 18 #[.slice none 0 0, .int .i64 (n : Int)] w (BgRet w) := by
  by_cases hn : 0 < n
  · have h1 : ¬ ((n : Int) < 0) := by omega
    have h2 : (n : Int) > 0 := by omega
    go_enter Try.func18, Try.ntmps18
    go_wp2_with (refine bgrowNil rfl _ _ rfl n hn hlen rfl rfl (fun cap W hcap hk hb => ?_); refine Hid.out ?_)
    have HO := Lib.hid hk
    have HB := Lib.hid hb
    clear hk hb
    refine Lib.hid ?_
    go_wp2_with fail
    go_ret
    exact ⟨_, rfl, HO.out, HB.out⟩
  · obtain rfl : n = 0 := by omega
    go_enter Try.func18, Try.ntmps18
    go_wp2_with fail
    go_ret
    exact ⟨_, rfl, KOwns.nil _ _, Below.refl _ _⟩
set_option maxHeartbeats 2000000 in
theorem bconcat_any (b : Nat) (v1 v2 : Value) (l1 l2 : List Int) (hlen : l1.length + l2.length ≤ 1000000) (w : World) (hB : Blk b #[v1, v2] 22 w) (h1 : KLies KB v1 l1 w) (h2 : KLies KB v2 l2 w) :
    Calls Try.prog 14 #[.slice (some ⟨b, 0, none⟩) 2 2] w (OwnRet KB w (l1 ++ l2)) := by
  obtain ⟨p1, c1, rfl⟩ := h1.form
  obtain ⟨p2, c2, rfl⟩ := h2.form
  have HB := Lib.hid hB
  have H1 := Lib.hid h1
  have H2 := Lib.hid h2
  have kb0 : w.cell? ⟨b, 0, none⟩ = some (.slice p1 l1.length c1) := (cell_of_row w b 0 _ _ _ hB).trans rfl
  have kb1 : w.cell? ⟨b, 1, none⟩ = some (.slice p2 l2.length c2) := (cell_of_row w b 1 _ _ _ hB).trans rfl
  obtain ⟨n1, hn1⟩ : ∃ n, n = l1.length := ⟨_, rfl⟩
  obtain ⟨n2, hn2⟩ : ∃ n, n = l2.length := ⟨_, rfl⟩
  rw [← hn1] at kb0 H1 hlen
  rw [← hn2] at kb1 H2 hlen
  have N1 := Lib.hid hn1
  have N2 := Lib.hid hn2
  clear hB h1 h2 hn1 hn2
  have g1 : ¬ ((n1 : Int) < 0) := by omega
  have g2 : ¬ (((n1 + n2 : Nat) : Int) < 0) := by omega
  have e1 : wrap64 (0 + (n1 : Int)) = (n1 : Int) := by unfold wrap64; omega
  have e2 : wrap64 ((n1 : Int) + (n2 : Int)) = ((n1 + n2 : Nat) : Int) := by unfold wrap64; omega
  have HG := Lib.hid (bgrow_any (n1 + n2) hlen w)
  go_enter Try.func14, Try.ntmps14
  go_wp2_with fail
  go_loopg [3, 11] 2 (fun k s3 s11 wr => w = wr ∧ ((k = 2 ∧ s3 = .int .i64 0 ∧ s11 = .int .i64 0) ∨ (k = 1 ∧ s3 = .int .i64 (n1 : Int) ∧ s11 = .int .i64 1) ∨ (k = 0 ∧ s3 = .int .i64 ((n1 + n2 : Nat) : Int) ∧ s11 = .int .i64 2)))
  case atStart => exact ⟨rfl, .inl ⟨rfl, rfl, rfl⟩⟩
  case round =>
    obtain ⟨rfl, ⟨rfl, rfl, rfl⟩ | ⟨rfl, rfl, rfl⟩ | ⟨rfl, rfl, rfl⟩⟩ := hrel
    · go_wp2_with fail
      go_roundg 1
      case measure => omega
      case rel => exact ⟨rfl, .inr (.inl ⟨rfl, by first | rfl | rw [e1] | go_num, by first | rfl | go_num⟩)⟩
    · go_wp2_with fail
      go_roundg 0
      case measure => omega
      case rel => exact ⟨rfl, .inr (.inr ⟨rfl, by first | rfl | rw [e2] | go_num, by first | rfl | go_num⟩)⟩
    · clear kb0 kb1
      go_wp2_with (go_at_call 18; refine HG.out.mono ?_; rintro e w1 ⟨v0, rfl, ho, hw1⟩; refine Hid.out ?_)
      have HO := Lib.hid ho
      have HW1 := Lib.hid hw1
      clear ho hw1 HG
      refine Lib.hid ?_
      go_wp2_with fail
      go_loopg [6, 27] 2 (fun k s6 s27 wr => Below w.heap.size w wr ∧ ((k = 2 ∧ KOwns KB w.heap.size s6 [] wr ∧ s27 = .int .i64 0) ∨ (k = 1 ∧ KOwns KB w.heap.size s6 l1 wr ∧ s27 = .int .i64 1) ∨ (k = 0 ∧ KOwns KB w.heap.size s6 (l1 ++ l2) wr ∧ s27 = .int .i64 2)))
      case atStart => exact ⟨HW1.out, .inl ⟨rfl, HO.out, rfl⟩⟩
      case round =>
        clear HO HW1
        obtain ⟨hb, ⟨rfl, ho, rfl⟩ | ⟨rfl, ho, rfl⟩ | ⟨rfl, ho, rfl⟩⟩ := hrel
        · have HO := Lib.hid ho
          have HBw := Lib.hid hb
          have HK := Lib.hid (H1.out.below okB hb)
          have kb := (cell_of_row wr b 0 _ _ _ (HB.out.below hb)).trans rfl
          simp only [← N1.out, ← N2.out] at kb
          have HLE := Lib.hid (show ([] : List Int).length + l1.length ≤ 1000000 by have := N1.out; have := N2.out; simp; omega)
          clear ho hb
          go_wp2_with (refine kappend KB okB rfl _ _ rfl w.heap.size _ [] l1 rfl HO.out _ rfl HK.out HBw.out.size HLE.out (fun v' w' ho hg => ?_); refine Hid.out ?_)
          have HO2 := Lib.hid ho
          have HB2 := Lib.hid (kbelowOwn HBw.out HO.out (Nat.le_refl _) hg)
          clear ho hg HO HBw HK kb
          refine Lib.hid ?_
          go_wp2_with fail
          go_roundg 1
          case measure => omega
          case rel => exact ⟨HB2.out, .inr (.inl ⟨rfl, HO2.out, by first | rfl | go_num⟩)⟩
        · have HO := Lib.hid ho
          have HBw := Lib.hid hb
          have HK := Lib.hid (H2.out.below okB hb)
          have kb := (cell_of_row wr b 1 _ _ _ (HB.out.below hb)).trans rfl
          simp only [← N1.out, ← N2.out] at kb
          have HLE := Lib.hid (show (l1 : List Int).length + l2.length ≤ 1000000 by have := N1.out; have := N2.out; simp; omega)
          clear ho hb
          go_wp2_with (refine kappend KB okB rfl _ _ rfl w.heap.size _ l1 l2 rfl HO.out _ rfl HK.out HBw.out.size HLE.out (fun v' w' ho hg => ?_); refine Hid.out ?_)
          have HO2 := Lib.hid ho
          have HB2 := Lib.hid (kbelowOwn HBw.out HO.out (Nat.le_refl _) hg)
          clear ho hg HO HBw HK kb
          refine Lib.hid ?_
          go_wp2_with fail
          go_roundg 0
          case measure => omega
          case rel => exact ⟨HB2.out, .inr (.inr ⟨rfl, HO2.out, by first | rfl | go_num⟩)⟩
        · have HO := Lib.hid ho
          have HBw := Lib.hid hb
          clear ho hb
          go_wp2_with fail
          go_ret
          exact ⟨_, rfl, HO.out, HBw.out⟩
end Go.Proofs.Ytdcekbmoihmjkaa
