/- Several of my texts as one: CodMath, CodMsg, CodRt, CodRb. -/
import Derived.Test.YtomnpfbebimpkaaGreatDoorUndMath
import Derived.Test.YtomnpfbebimpkaaGreatDoorModSam
/-
  Messages and their bytes: no word of any program. Numbers as bytes, what is read of bytes, which messages are sound; what is written is read again, what is read was written so.
-/
namespace Go.Proofs.YtomnpfbebimpkaaGreatDoor
set_option maxRecDepth 20000

/-- bytes -/
def ByL (l : List Int) : Prop := ∀ x ∈ l, 0 ≤ x ∧ x < 256
theorem ByL.app {a b : List Int} (ha : ByL a) (hb : ByL b) : ByL (a ++ b) := fun x hx => (List.mem_append.1 hx).elim (ha x) (hb x)
theorem ByL.left {a b : List Int} (h : ByL (a ++ b)) : ByL a := fun x hx => h x (List.mem_append_left _ hx)
theorem ByL.right {a b : List Int} (h : ByL (a ++ b)) : ByL b := fun x hx => h x (List.mem_append_right _ hx)
theorem ByL.take {a : List Int} (h : ByL a) (n : Nat) : ByL (a.take n) := fun x hx => h x (List.mem_of_mem_take hx)
theorem ByL.drop {a : List Int} (h : ByL a) (n : Nat) : ByL (a.drop n) := fun x hx => h x (List.mem_of_mem_drop hx)
/-- a number in so many bytes, the most significant first -/
def numB : Nat → Int → List Int
  | 0, _ => []
  | s + 1, n => numB s (n / 256) ++ [n % 256]
/-- the number that bytes say -/
def valB (l : List Int) : Int := l.foldl (fun a b => a * 256 + b) 0
/-- the greatest number of so many bytes, and one -/
def powB : Nat → Int
  | 0 => 1
  | s + 1 => powB s * 256
theorem powB_pos : ∀ s, 0 < powB s
  | 0 => by decide
  | s + 1 => by have := powB_pos s; unfold powB; omega
theorem numB_len : ∀ (s : Nat) (n : Int), (numB s n).length = s
  | 0, _ => rfl
  | s + 1, n => by rw [numB, List.length_append, numB_len s]; rfl
theorem numB_byte : ∀ (s : Nat) (n : Int), ByL (numB s n)
  | 0, _ => fun x hx => by cases hx
  | s + 1, n => ByL.app (numB_byte s _) fun x hx => by
    simp only [List.mem_cons, List.not_mem_nil, or_false] at hx
    subst hx
    omega
theorem valB_snoc (l : List Int) (b : Int) : valB (l ++ [b]) = valB l * 256 + b := by unfold valB; rw [List.foldl_append]; rfl
theorem valB_num : ∀ (s : Nat) (n : Int), 0 ≤ n → n < powB s → valB (numB s n) = n
  | 0, n, h0, h1 => by
    have h1' : n < 1 := h1
    have : n = 0 := by omega
    subst this
    rfl
  | s + 1, n, h0, h1 => by
    have h1' : n < powB s * 256 := h1
    rw [numB, valB_snoc, valB_num s (n / 256) (by omega) (by omega)]
    omega
theorem snoc_of {l : List Int} {s : Nat} (h : l.length = s + 1) : ∃ k b, l = k ++ [b] ∧ k.length = s := by
  have hne : l ≠ [] := fun e => by rw [e] at h; cases h
  refine ⟨l.dropLast, l.getLast hne, (List.dropLast_concat_getLast hne).symm, ?_⟩
  rw [List.length_dropLast, h]
  rfl
theorem num_val : ∀ (s : Nat) (l : List Int), l.length = s → ByL l → numB s (valB l) = l ∧ 0 ≤ valB l ∧ valB l < powB s
  | 0, l, h, _ => by
    obtain rfl : l = [] := List.length_eq_zero_iff.1 h
    exact ⟨rfl, by decide, by decide⟩
  | s + 1, l, h, hb => by
    obtain ⟨k, b, rfl, hk⟩ := snoc_of h
    obtain ⟨h1, h2, h3⟩ := num_val s k hk hb.left
    have hbb := hb b (by simp)
    rw [valB_snoc]
    refine ⟨?_, by omega, ?_⟩
    · rw [numB, show (valB k * 256 + b) / 256 = valB k by omega, show (valB k * 256 + b) % 256 = b by omega, h1]
    · show valB k * 256 + b < powB s * 256
      omega
theorem powB_8 : powB 8 = 18446744073709551616 := by decide
theorem powB_4 : powB 4 = 4294967296 := by decide
theorem powB_2 : powB 2 = 65536 := by decide
theorem powB_1 : powB 1 = 256 := by decide
/-- what is read of bytes: nothing if they end early -/
abbrev Rd (α : Type) := List Int → Option (α × List Int)
/-- more bytes behind change nothing of what is read -/
def Rd.Ok {α : Type} (p : Rd α) : Prop := ∀ l x r t, p l = some (x, r) → p (l ++ t) = some (x, r ++ t)
/-- one number -/
def rNum (s : Nat) : Rd Int := fun l => if s ≤ l.length then some (valB (l.take s), l.drop s) else none
/-- one number after another -/
def rNums : List Nat → Rd (List Int)
  | [], l => some ([], l)
  | s :: ss, l => match rNum s l with
    | none => none
    | some (n, r) => match rNums ss r with
      | none => none
      | some (ns, r') => some (n :: ns, r')
/-- the bytes of numbers -/
def encN : List (Nat × Int) → List Int
  | [] => []
  | (s, n) :: r => numB s n ++ encN r
/-- numbers that fit in their bytes -/
def FitN (l : List (Nat × Int)) : Prop := ∀ x ∈ l, 0 ≤ x.2 ∧ x.2 < powB x.1
theorem rNum_ok (s : Nat) : (rNum s).Ok := fun l x r t h => by
  unfold rNum at h ⊢
  split at h
  · rename_i hs
    injection h with h
    injection h with h1 h2
    subst h1 h2
    rw [if_pos (by rw [List.length_append]; omega), List.take_append_of_le_length hs, List.drop_append_of_le_length hs]
  · cases h
theorem rNums_ok : ∀ ss, (rNums ss).Ok
  | [], l, x, r, t, h => by
    injection h with h
    injection h with h1 h2
    subst h1 h2
    rfl
  | s :: ss, l, x, r, t, h => by
    rw [rNums] at h ⊢
    cases h1 : rNum s l with
    | none => rw [h1] at h; cases h
    | some y =>
      obtain ⟨n, r1⟩ := y
      rw [h1] at h
      rw [rNum_ok s _ _ _ t h1]
      simp only at h ⊢
      cases h2 : rNums ss r1 with
      | none => rw [h2] at h; cases h
      | some z =>
        obtain ⟨ns, r2⟩ := z
        rw [h2] at h
        rw [rNums_ok ss _ _ _ t h2]
        injection h with h
        injection h with h3 h4
        subst h3 h4
        rfl
theorem rNum_enc (s : Nat) (n : Int) (t : List Int) (h0 : 0 ≤ n) (h1 : n < powB s) : rNum s (numB s n ++ t) = some (n, t) := by
  unfold rNum
  have hl := numB_len s n
  rw [if_pos (by rw [List.length_append]; omega), List.take_append_of_le_length (by omega), List.drop_append_of_le_length (by omega), List.take_of_length_le (by omega), List.drop_of_length_le (by omega), valB_num s n h0 h1, List.nil_append]
theorem rNums_enc : ∀ (l : List (Nat × Int)) (t : List Int), FitN l → rNums (l.map (·.1)) (encN l ++ t) = some (l.map (·.2), t)
  | [], _, _ => rfl
  | (s, n) :: l, t, h => by
    have h0 := h (s, n) (List.mem_cons_self ..)
    rw [encN, List.map_cons, List.map_cons, rNums, List.append_assoc, rNum_enc s n _ h0.1 h0.2]
    simp only
    rw [rNums_enc l t fun x hx => h x (List.mem_cons_of_mem _ hx)]
theorem rNum_of {s : Nat} {l r : List Int} {n : Int} (hb : ByL l) (h : rNum s l = some (n, r)) : l = numB s n ++ r ∧ 0 ≤ n ∧ n < powB s ∧ ByL r := by
  unfold rNum at h
  split at h
  · rename_i hs
    injection h with h
    injection h with h1 h2
    subst h1 h2
    obtain ⟨e, e0, e1⟩ := num_val s (l.take s) (by rw [List.length_take]; omega) (hb.take s)
    rw [e]
    exact ⟨(List.take_append_drop s l).symm, e0, e1, hb.drop s⟩
  · cases h
theorem rNums_of : ∀ (ss : List Nat) {l r : List Int} {ns : List Int}, ByL l → rNums ss l = some (ns, r) → ns.length = ss.length ∧ l = encN (ss.zip ns) ++ r ∧ FitN (ss.zip ns) ∧ ByL r
  | [], l, r, ns, hb, h => by
    injection h with h
    injection h with h1 h2
    subst h1 h2
    exact ⟨rfl, rfl, fun x hx => (by cases hx), hb⟩
  | s :: ss, l, r, ns, hb, h => by
    rw [rNums] at h
    cases h1 : rNum s l with
    | none => rw [h1] at h; cases h
    | some y =>
      obtain ⟨n, r1⟩ := y
      rw [h1] at h
      simp only at h
      cases h2 : rNums ss r1 with
      | none => rw [h2] at h; cases h
      | some z =>
        obtain ⟨ms, r2⟩ := z
        rw [h2] at h
        injection h with h
        injection h with h3 h4
        subst h3 h4
        obtain ⟨e1, e2, e3, e4⟩ := rNum_of hb h1
        obtain ⟨f1, f2, f3, f4⟩ := rNums_of ss e4 h2
        refine ⟨by simp [f1], ?_, ?_, f4⟩
        · rw [List.zip_cons_cons, encN, List.append_assoc, ← f2]; exact e1
        · intro x hx
          rw [List.zip_cons_cons] at hx
          rcases List.mem_cons.1 hx with rfl | hx
          · exact ⟨e2, e3⟩
          · exact f3 x hx
/-- so many of one kind, one after another -/
def rMany {α : Type} (p : Rd α) : Nat → Rd (List α)
  | 0, l => some ([], l)
  | n + 1, l => match p l with
    | none => none
    | some (x, r) => match rMany p n r with
      | none => none
      | some (xs, r') => some (x :: xs, r')
theorem rMany_ok {α : Type} {p : Rd α} (hp : p.Ok) : ∀ n, (rMany p n).Ok
  | 0, l, x, r, t, h => by
    injection h with h
    injection h with h1 h2
    subst h1 h2
    rfl
  | n + 1, l, x, r, t, h => by
    rw [rMany] at h ⊢
    cases h1 : p l with
    | none => rw [h1] at h; cases h
    | some y =>
      obtain ⟨n1, r1⟩ := y
      rw [h1] at h
      rw [hp _ _ _ t h1]
      simp only at h ⊢
      cases h2 : rMany p n r1 with
      | none => rw [h2] at h; cases h
      | some z =>
        obtain ⟨ns, r2⟩ := z
        rw [h2] at h
        rw [rMany_ok hp n _ _ _ t h2]
        injection h with h
        injection h with h3 h4
        subst h3 h4
        rfl
theorem rMany_enc {α : Type} {p : Rd α} {enc : α → List Int} : ∀ (xs : List α) (t : List Int), (∀ x ∈ xs, ∀ t, p (enc x ++ t) = some (x, t)) → rMany p xs.length (xs.flatMap enc ++ t) = some (xs, t)
  | [], _, _ => rfl
  | x :: xs, t, h => by
    rw [List.flatMap_cons, List.length_cons, rMany, List.append_assoc, h x (List.mem_cons_self ..)]
    simp only
    rw [rMany_enc xs t fun y hy => h y (List.mem_cons_of_mem _ hy)]
theorem rMany_of {α : Type} {p : Rd α} {enc : α → List Int} {G : α → Prop} (hp : ∀ l x r, ByL l → p l = some (x, r) → G x ∧ l = enc x ++ r ∧ ByL r) : ∀ (n : Nat) {l r : List Int} {xs : List α}, ByL l → rMany p n l = some (xs, r) → xs.length = n ∧ (∀ x ∈ xs, G x) ∧ l = xs.flatMap enc ++ r ∧ ByL r
  | 0, l, r, xs, hb, h => by
    injection h with h
    injection h with h1 h2
    subst h1 h2
    exact ⟨rfl, fun x hx => (by cases hx), rfl, hb⟩
  | n + 1, l, r, xs, hb, h => by
    rw [rMany] at h
    cases h1 : p l with
    | none => rw [h1] at h; cases h
    | some y =>
      obtain ⟨x, r1⟩ := y
      rw [h1] at h
      simp only at h
      cases h2 : rMany p n r1 with
      | none => rw [h2] at h; cases h
      | some z =>
        obtain ⟨ys, r2⟩ := z
        rw [h2] at h
        injection h with h
        injection h with h3 h4
        subst h3 h4
        obtain ⟨g1, e1, b1⟩ := hp _ _ _ hb h1
        obtain ⟨f1, f2, f3, f4⟩ := rMany_of hp n b1 h2
        refine ⟨by simp [f1], fun z hz => ?_, ?_, f4⟩
        · rcases List.mem_cons.1 hz with rfl | hz
          · exact g1
          · exact f2 z hz
        · rw [List.flatMap_cons, List.append_assoc, ← f3]; exact e1
end Go.Proofs.YtomnpfbebimpkaaGreatDoor

/-
  Messages: which are sound, their bytes, what bytes say: no word of any program.
-/
namespace Go.Proofs.YtomnpfbebimpkaaGreatDoor
set_option maxRecDepth 20000

/-- a message -/
structure Ms where
  kind : Int
  txn : Int
  e : Int
  mod : Mu
  port : Int
  head : Nat → Int
  rules : List Ru
def zMu : Mu := ⟨0, fun _ => 0, 0, [], 0, 0, 0, false⟩
def zHd : Nat → Int := fun _ => 0
def zMs : Ms := ⟨0, 0, 0, zMu, 0, zHd, []⟩
/-- neither port nor header -/
def plainB (m : Ms) : Bool := (m.port == 0) && hEq m.head zHd
/-- is a message sound? -/
def sndMs (m : Ms) : Bool := (decide (0 ≤ m.txn) && decide (m.txn ≤ 4294967295)) &&
  (if m.kind = 1 then sndM m.mod && ((m.e == 0) && (plainB m && decide (m.rules.length = 0)))
  else if m.kind = 6 then mEq m.mod zMu && ((decide (1 ≤ m.e) && decide (m.e ≤ 17)) && (plainB m && decide (m.rules.length = 0)))
  else if m.kind = 8 then mEq m.mod zMu && ((m.e == 0) && ((decide (1 ≤ m.port) && decide (m.port ≤ 16)) && (sndB m.head && decide (m.rules.length = 0))))
  else if m.kind = 9 then mEq m.mod zMu && ((m.e == 0) && (plainB m && (decide (m.rules.length = 1) && m.rules.all sndR)))
  else if m.kind = 10 then mEq m.mod zMu && ((m.e == 0) && (plainB m && (decide (m.rules.length ≤ 65535) && tabU m.rules)))
  else mEq m.mod zMu && ((m.e == 0) && (plainB m && (decide (m.rules.length = 0) && (decide (2 ≤ m.kind) && decide (m.kind ≤ 7))))))
/-- are two messages the same? -/
def msEq (a b : Ms) : Bool := (a.kind == b.kind) && ((a.txn == b.txn) && ((a.e == b.e) && (mEq a.mod b.mod && ((a.port == b.port) && (hEq a.head b.head && sameL a.rules b.rules)))))
/-- a message whose matches and header say nothing beyond their cells -/
structure CanMs (m : Ms) : Prop where
  mod : ∀ j, 24 ≤ j → m.mod.m j = 0
  head : ∀ j, 12 ≤ j → m.head j = 0
  rules : CanL m.rules
/-- numbers of a message that came in -/
structure WfMs (m : Ms) : Prop where
  mod : WfM m.mod
  head : Wf m.head
  rules : WfUL m.rules
def cubeN (m : Nat → Int) : List (Nat × Int) := (List.range 24).map fun j => (8, m j)
def headN (h : Nat → Int) : List (Nat × Int) := (List.range 12).map fun j => (8, h j)
def actN (a : Ac) : List (Nat × Int) := [(1, a.k), (1, a.p), (1, a.f), (8, a.v)]
def ruleN (u : Ru) : List (Nat × Int) := cubeN u.m ++ [(2, u.p), (4, u.idle), (4, u.hard), (1, u.owner), (8, u.hits), (8, u.quiet), (8, u.age)]
def modN (m : Mu) : List (Nat × Int) := (1, m.kind) :: (cubeN m.m ++ [(2, m.p), (4, m.idle), (4, m.hard), (1, m.owner), (1, if m.chk then 1 else 0)])
def encA (l : List Ac) : List Int := numB 1 (l.length : Int) ++ l.flatMap fun a => encN (actN a)
def encR (u : Ru) : List Int := encN (ruleN u) ++ encA u.acts
def encM (m : Mu) : List Int := encN (modN m) ++ encA m.acts
def bodyL (m : Ms) : List Int := if m.kind = 1 then encM m.mod else if m.kind = 6 then numB 1 m.e else if m.kind = 8 then encN ((1, m.port) :: headN m.head)
  else if m.kind = 9 ∨ m.kind = 10 then numB 2 (m.rules.length : Int) ++ m.rules.flatMap encR else []
/-- the bytes of a sound message -/
def encMs (m : Ms) : List Int := encN [(1, m.kind), (4, m.txn)] ++ bodyL m
/-- what is read, one behind the other -/
def rBind {α β : Type} (p : Rd α) (f : α → Rd β) : Rd β := fun l => match p l with
  | none => none
  | some (x, r) => f x r
def rPure {α : Type} (x : α) : Rd α := fun l => some (x, l)
section
variable {α β : Type} {p : Rd α} {f : α → Rd β} {l r : List Int} {x : α} {y : β}
theorem rBind_some (h : p l = some (x, r)) : rBind p f l = f x r := by unfold rBind; rw [h]
theorem rBind_none (h : p l = none) : rBind p f l = none := by unfold rBind; rw [h]
theorem rBind_of (h : rBind p f l = some (y, r)) : ∃ x r1, p l = some (x, r1) ∧ f x r1 = some (y, r) := by
  unfold rBind at h
  cases hp : p l with
  | none => rw [hp] at h; cases h
  | some z => rw [hp] at h; exact ⟨z.1, z.2, rfl, h⟩
theorem rBind_ok (hp : p.Ok) (hf : ∀ x, (f x).Ok) : (rBind p f).Ok := fun l y r t h => by
  obtain ⟨x, r1, h1, h2⟩ := rBind_of h
  rw [rBind_some (hp _ _ _ t h1)]
  exact hf x _ _ _ t h2
theorem rPure_ok (x : α) : (rPure x).Ok := fun l y r t h => by
  injection h with h
  injection h with h1 h2
  subst h1 h2
  rfl
end
/-- a number of those read -/
def nthI (l : List Int) (i : Nat) : Int := l.getD i 0
/-- 24 (or 12) of the numbers read, from a place on -/
def cubeOf (ns : List Int) (o : Nat) : Nat → Int := fun j => if j < 24 then nthI ns (o + j) else 0
def headOf (ns : List Int) (o : Nat) : Nat → Int := fun j => if j < 12 then nthI ns (o + j) else 0
/-- a number of 8 bytes as one with a sign -/
def sgnI (n : Int) : Int := if n < 9223372036854775808 then n else n - 18446744073709551616
def actS : List Nat := [1, 1, 1, 8]
def ruleS : List Nat := List.replicate 24 8 ++ [2, 4, 4, 1, 8, 8, 8]
def modS : List Nat := 1 :: (List.replicate 24 8 ++ [2, 4, 4, 1, 1])
def headS : List Nat := 1 :: List.replicate 12 8
def mkA (ns : List Int) : Ac := ⟨nthI ns 0, nthI ns 1, nthI ns 2, nthI ns 3⟩
def mkR (ns : List Int) (acts : List Ac) : Ru := ⟨cubeOf ns 0, nthI ns 24, acts, nthI ns 25, nthI ns 26, nthI ns 27, sgnI (nthI ns 28), sgnI (nthI ns 29), sgnI (nthI ns 30)⟩
def mkM (ns : List Int) (acts : List Ac) : Mu := ⟨nthI ns 0, cubeOf ns 1, nthI ns 25, acts, nthI ns 26, nthI ns 27, nthI ns 28, nthI ns 29 == 1⟩
def rAct : Rd Ac := rBind (rNums actS) fun ns => rPure (mkA ns)
def rActs : Rd (List Ac) := rBind (rNum 1) fun n => rMany rAct n.toNat
def rRule : Rd Ru := rBind (rNums ruleS) fun ns => rBind rActs fun ac => rPure (mkR ns ac)
def rMod : Rd (Mu × Bool) := rBind (rNums modS) fun ns => rBind rActs fun ac => rPure (mkM ns ac, decide (1 < nthI ns 29))
def rRules : Rd (List Ru) := rBind (rNum 2) fun n => rMany rRule n.toNat
def rBody (k t : Int) : Rd (Ms × Bool) :=
  if k = 1 then rBind rMod fun x => rPure (⟨k, t, 0, x.1, 0, zHd, []⟩, x.2)
  else if k = 6 then rBind (rNum 1) fun e => rPure (⟨k, t, e, zMu, 0, zHd, []⟩, false)
  else if k = 8 then rBind (rNums headS) fun ns => rPure (⟨k, t, 0, zMu, nthI ns 0, headOf ns 1, []⟩, false)
  else if k = 9 ∨ k = 10 then rBind rRules fun rs => rPure (⟨k, t, 0, zMu, 0, zHd, rs⟩, false)
  else rPure (⟨k, t, 0, zMu, 0, zHd, []⟩, false)
/-- a message, read; whether its Check was a number beyond 1 -/
def rMs : Rd (Ms × Bool) := rBind (rNums [1, 4]) fun ns => rBody (nthI ns 0) (nthI ns 1)
/-- what Decode answers -/
def decE (b : List Int) : Int := match rMs b with
  | none => 8
  | some ((m, odd), r) => if odd = false ∧ r = [] ∧ sndMs m = true then 0 else 2
def decV (b : List Int) : Ms := match rMs b with
  | none => zMs
  | some ((m, odd), r) => if odd = false ∧ r = [] ∧ sndMs m = true then m else zMs
theorem rAct_ok : rAct.Ok := rBind_ok (rNums_ok _) fun _ => rPure_ok _
theorem rActs_ok : rActs.Ok := rBind_ok (rNum_ok _) fun _ => rMany_ok rAct_ok _
theorem rRule_ok : rRule.Ok := rBind_ok (rNums_ok _) fun _ => rBind_ok rActs_ok fun _ => rPure_ok _
theorem rMod_ok : rMod.Ok := rBind_ok (rNums_ok _) fun _ => rBind_ok rActs_ok fun _ => rPure_ok _
theorem rRules_ok : rRules.Ok := rBind_ok (rNum_ok _) fun _ => rMany_ok rRule_ok _
theorem rBody_ok (k t : Int) : (rBody k t).Ok := by
  unfold rBody
  split
  · exact rBind_ok rMod_ok fun _ => rPure_ok _
  · split
    · exact rBind_ok (rNum_ok _) fun _ => rPure_ok _
    · split
      · exact rBind_ok (rNums_ok _) fun _ => rPure_ok _
      · split
        · exact rBind_ok rRules_ok fun _ => rPure_ok _
        · exact rPure_ok _
theorem rMs_ok : rMs.Ok := rBind_ok (rNums_ok _) fun _ => rBody_ok _ _
/-- nothing ahead of the end of what is read whole is read -/
theorem cut_none {α : Type} {p : Rd α} (hp : p.Ok) {b : List Int} {x : α} (h : p b = some (x, [])) {n : Nat} (hn : n < b.length) : p (b.take n) = none := by
  cases hc : p (b.take n) with
  | none => rfl
  | some y =>
    have h2 := hp _ _ _ (b.drop n) hc
    rw [List.take_append_drop, h] at h2
    injection h2 with h2
    injection h2 with _ h2
    have h3 := congrArg List.length h2
    rw [List.length_append, List.length_drop] at h3
    simp at h3
    omega
section
variable {ns : List Int} {m h : Nat → Int}
theorem cubeN_fst (m : Nat → Int) : (cubeN m).map (·.1) = List.replicate 24 8 := by unfold cubeN; rw [List.map_map]; rfl
theorem headN_fst (m : Nat → Int) : (headN m).map (·.1) = List.replicate 12 8 := by unfold headN; rw [List.map_map]; rfl
theorem cubeN_snd (m : Nat → Int) : (cubeN m).map (·.2) = (List.range 24).map m := by unfold cubeN; rw [List.map_map]; rfl
theorem headN_snd (m : Nat → Int) : (headN m).map (·.2) = (List.range 12).map m := by unfold headN; rw [List.map_map]; rfl
theorem nthI_left {a b : List Int} {i : Nat} (hi : i < a.length) : nthI (a ++ b) i = nthI a i := by
  unfold nthI
  rw [List.getD_eq_getElem?_getD, List.getD_eq_getElem?_getD, List.getElem?_append_left hi]
theorem nthI_right {a b : List Int} {i k : Nat} (hk : i = a.length + k) : nthI (a ++ b) i = nthI b k := by
  unfold nthI
  rw [List.getD_eq_getElem?_getD, List.getD_eq_getElem?_getD, List.getElem?_append_right (by omega), show i - a.length = k by omega]
theorem nthI_range {n j : Nat} (hj : j < n) : nthI ((List.range n).map m) j = m j := by
  unfold nthI
  rw [List.getD_eq_getElem?_getD, List.getElem?_map, List.getElem?_range hj]
  rfl
theorem nthI_cons (x : Int) (l : List Int) (i : Nat) : nthI (x :: l) (i + 1) = nthI l i := rfl
theorem len24 (m : Nat → Int) : ((List.range 24).map m).length = 24 := by simp
theorem len12 (m : Nat → Int) : ((List.range 12).map m).length = 12 := by simp
theorem cube_back {c : List Int} (hc : c.length = 24) (o : Nat) (a b : List Int) (ho : a.length = o) : (List.range 24).map (cubeOf (a ++ (c ++ b)) o) = c := by
  apply List.ext_getElem?
  intro j
  by_cases hj : j < 24
  · rw [List.getElem?_map, List.getElem?_range hj, Option.map_some, List.getElem?_eq_getElem (by omega)]
    congr 1
    unfold cubeOf
    rw [if_pos hj, nthI_right (k := j) (by omega), nthI_left (by omega)]
    unfold nthI
    rw [List.getD_eq_getElem?_getD, List.getElem?_eq_getElem (by omega)]
    rfl
  · rw [List.getElem?_eq_none (by simp; omega), List.getElem?_eq_none (by omega)]
theorem head_back {c : List Int} (hc : c.length = 12) (a : List Int) (o : Nat) (ho : a.length = o) : (List.range 12).map (headOf (a ++ c) o) = c := by
  apply List.ext_getElem?
  intro j
  by_cases hj : j < 12
  · rw [List.getElem?_map, List.getElem?_range hj, Option.map_some, List.getElem?_eq_getElem (by omega)]
    congr 1
    unfold headOf
    rw [if_pos hj, nthI_right (k := j) (by omega)]
    unfold nthI
    rw [List.getD_eq_getElem?_getD, List.getElem?_eq_getElem (by omega)]
    rfl
  · rw [List.getElem?_eq_none (by simp; omega), List.getElem?_eq_none (by omega)]
theorem cubeOf_of (hm : ∀ j, 24 ≤ j → m j = 0) (o : Nat) (a b : List Int) (ho : a.length = o) : cubeOf (a ++ ((List.range 24).map m ++ b)) o = m := by
  funext j
  unfold cubeOf
  split
  · rename_i hj
    rw [nthI_right (k := j) (by omega), nthI_left (by rw [len24]; exact hj), nthI_range hj]
  · rename_i hj
    rw [hm j (by omega)]
theorem headOf_of (hm : ∀ j, 12 ≤ j → m j = 0) (o : Nat) (a : List Int) (ho : a.length = o) : headOf (a ++ (List.range 12).map m) o = m := by
  funext j
  unfold headOf
  split
  · rename_i hj
    rw [nthI_right (k := j) (by omega), nthI_range hj]
  · rename_i hj
    rw [hm j (by omega)]
theorem nthI_tail {a b : List Int} {n i k : Nat} (hn : a.length = n) (hk : i = n + k) : nthI (a ++ b) i = nthI b k := nthI_right (by omega)
end
end Go.Proofs.YtomnpfbebimpkaaGreatDoor

/-
  What is written is read again; what is read was written so: no word of any program.
-/
namespace Go.Proofs.YtomnpfbebimpkaaGreatDoor
set_option maxRecDepth 20000

theorem fit_nil : FitN [] := fun x hx => by cases hx
theorem fit_cons {s : Nat} {n : Int} {l : List (Nat × Int)} (h0 : 0 ≤ n) (h1 : n < powB s) (h : FitN l) : FitN ((s, n) :: l) := fun x hx => by
  rcases List.mem_cons.1 hx with rfl | hx
  · exact ⟨h0, h1⟩
  · exact h x hx
theorem fit_app {a b : List (Nat × Int)} (ha : FitN a) (hb : FitN b) : FitN (a ++ b) := fun x hx => (List.mem_append.1 hx).elim (ha x) (hb x)
theorem fit_cube {m : Nat → Int} (h : Wf m) : FitN (cubeN m) := fun x hx => by
  obtain ⟨j, _, rfl⟩ := List.mem_map.1 hx
  rw [show powB (8, m j).1 = powB 8 from rfl, powB_8]
  exact h j
theorem fit_head {m : Nat → Int} (h : Wf m) : FitN (headN m) := fun x hx => by
  obtain ⟨j, _, rfl⟩ := List.mem_map.1 hx
  rw [show powB (8, m j).1 = powB 8 from rfl, powB_8]
  exact h j
theorem encN_byte : ∀ l : List (Nat × Int), ByL (encN l)
  | [] => fun x hx => (by cases hx)
  | (s, n) :: l => ByL.app (numB_byte s n) (encN_byte l)
theorem encN_app : ∀ a b : List (Nat × Int), encN (a ++ b) = encN a ++ encN b
  | [], _ => rfl
  | (s, n) :: a, b => by rw [List.cons_append, encN, encN, encN_app a b, List.append_assoc]
/-- numbers of one size say the same with and without a sign -/
theorem numB_sub : ∀ (s : Nat) (n : Int), numB s (n - powB s) = numB s n
  | 0, _ => rfl
  | s + 1, n => by
    have e : n - powB (s + 1) = n - powB s * 256 := rfl
    rw [numB, numB, e, show (n - powB s * 256) / 256 = n / 256 - powB s by omega, show (n - powB s * 256) % 256 = n % 256 by omega, numB_sub s]
theorem numB_sgn (n : Int) : numB 8 (sgnI n) = numB 8 n := by
  unfold sgnI
  split
  · rfl
  · have := numB_sub 8 n
    rwa [powB_8] at this
section
variable {a : Ac} {l r t : List Int} {ac : List Ac} {u : Ru} {m : Mu} {us : List Ru}
theorem act_fit (h : sndA a = true) (hw : WfA a) : FitN (actN a) := by
  have hv := hw
  unfold WfA at hv
  unfold sndA at h
  have key : (0 ≤ a.k ∧ a.k < 256) ∧ (0 ≤ a.p ∧ a.p < 256) ∧ (0 ≤ a.f ∧ a.f < 256) := by
    split at h
    · simp only [Bool.and_eq_true, decide_eq_true_eq, beq_iff_eq] at h
      omega
    · split at h
      · simp only [Bool.and_eq_true, beq_iff_eq] at h
        obtain ⟨k, e, hk, _⟩ := setE_zero h.1
        omega
      · split at h
        · simp only [Bool.and_eq_true, beq_iff_eq] at h
          omega
        · cases h
  obtain ⟨⟨k0, k1⟩, ⟨p0, p1⟩, f0, f1⟩ := key
  exact fit_cons k0 (by rw [powB_1]; exact k1) (fit_cons p0 (by rw [powB_1]; exact p1) (fit_cons f0 (by rw [powB_1]; exact f1) (fit_cons hv.1 (by rw [powB_8]; exact hv.2) fit_nil)))
theorem rAct_enc (h : FitN (actN a)) (t : List Int) : rAct (encN (actN a) ++ t) = some (a, t) := by
  have := rNums_enc (actN a) t h
  exact rBind_some (show rNums actS (encN (actN a) ++ t) = some ((actN a).map (·.2), t) from this)
theorem acts_len (h : sndAL ac = true) : ac.length ≤ 8 := by
  unfold sndAL at h
  rw [Bool.and_eq_true, decide_eq_true_eq] at h
  exact h.1
theorem rActs_enc (h : sndAL ac = true) (hw : WfAL ac) (t : List Int) : rActs (encA ac ++ t) = some (ac, t) := by
  have hl := acts_len h
  have hall : ∀ a ∈ ac, sndA a = true := by
    unfold sndAL at h
    rw [Bool.and_eq_true, List.all_eq_true] at h
    exact h.2
  unfold rActs encA
  rw [List.append_assoc, rBind_some (rNum_enc 1 (ac.length : Int) _ (by omega) (by rw [powB_1]; omega)), Int.toNat_natCast]
  exact rMany_enc ac t fun a ha t => rAct_enc (act_fit (hall a ha) (hw a ha)) t
theorem snd_rule (h : sndR u = true) : sndAL u.acts = true ∧ (0 ≤ u.p ∧ u.p ≤ 65535) ∧ (0 ≤ u.idle ∧ u.idle ≤ 1048576) ∧ (0 ≤ u.hard ∧ u.hard ≤ 1048576) ∧ (0 ≤ u.owner ∧ u.owner ≤ 255) ∧ 0 ≤ u.hits ∧ 0 ≤ u.quiet ∧ 0 ≤ u.age := by
  unfold sndR upB at h
  simp only [Bool.and_eq_true, decide_eq_true_eq] at h
  obtain ⟨_, h1, h2, h3, h4, h5, h6, h7, h8⟩ := h
  exact ⟨h1, h2, h3, h4, h5, h6, h7, h8⟩
theorem sgn_pos {n : Int} (h : n ≤ 9223372036854775807) : sgnI n = n := by unfold sgnI; rw [if_pos (by omega)]
theorem rule_fit (h : sndR u = true) (hw : WfR u) : FitN (ruleN u) := by
  obtain ⟨_, hp, hi, hh, ho, h1, h2, h3⟩ := snd_rule h
  obtain ⟨_, _, _, _, n1, n2, n3⟩ := hw.nums
  unfold I64 at n1 n2 n3
  exact fit_app (fit_cube hw.m) (fit_cons hp.1 (by rw [powB_2]; omega) (fit_cons hi.1 (by rw [powB_4]; omega) (fit_cons hh.1 (by rw [powB_4]; omega) (fit_cons ho.1 (by rw [powB_1]; omega) (fit_cons h1 (by rw [powB_8]; omega) (fit_cons h2 (by rw [powB_8]; omega) (fit_cons h3 (by rw [powB_8]; omega) fit_nil)))))))
theorem ruleN_fst (u : Ru) : (ruleN u).map (·.1) = ruleS := by unfold ruleN ruleS; rw [List.map_append, cubeN_fst]; rfl
theorem ruleN_snd (u : Ru) : (ruleN u).map (·.2) = [] ++ ((List.range 24).map u.m ++ [u.p, u.idle, u.hard, u.owner, u.hits, u.quiet, u.age]) := by unfold ruleN; rw [List.map_append, cubeN_snd]; rfl
theorem mkR_of (hc : Can u) (h1 : u.hits ≤ 9223372036854775807) (h2 : u.quiet ≤ 9223372036854775807) (h3 : u.age ≤ 9223372036854775807) : mkR ((ruleN u).map (·.2)) u.acts = u := by
  rw [ruleN_snd]
  unfold mkR
  rw [cubeOf_of hc 0 [] _ rfl, List.nil_append, nthI_tail (len24 u.m) (show 24 = 24 + 0 from rfl), nthI_tail (len24 u.m) (show 25 = 24 + 1 from rfl), nthI_tail (len24 u.m) (show 26 = 24 + 2 from rfl), nthI_tail (len24 u.m) (show 27 = 24 + 3 from rfl),
    nthI_tail (len24 u.m) (show 28 = 24 + 4 from rfl), nthI_tail (len24 u.m) (show 29 = 24 + 5 from rfl), nthI_tail (len24 u.m) (show 30 = 24 + 6 from rfl)]
  show (⟨u.m, u.p, u.acts, u.idle, u.hard, u.owner, sgnI u.hits, sgnI u.quiet, sgnI u.age⟩ : Ru) = u
  rw [sgn_pos h1, sgn_pos h2, sgn_pos h3]
theorem rRule_enc (h : sndR u = true) (hw : WfR u) (hc : Can u) (t : List Int) : rRule (encR u ++ t) = some (u, t) := by
  have hn := rNums_enc (ruleN u) (encA u.acts ++ t) (rule_fit h hw)
  rw [ruleN_fst] at hn
  obtain ⟨_, _, _, _, n1, n2, n3⟩ := hw.nums
  unfold I64 at n1 n2 n3
  unfold rRule encR
  rw [List.append_assoc, rBind_some hn, rBind_some (rActs_enc (snd_rule h).1 hw.a t), mkR_of hc n1.2 n2.2 n3.2]
  rfl
theorem snd_mod (h : sndM m = true) : sndAL m.acts = true ∧ (1 ≤ m.kind ∧ m.kind ≤ 5) ∧ (0 ≤ m.p ∧ m.p ≤ 65535) ∧ (0 ≤ m.owner ∧ m.owner ≤ 255) ∧ (0 ≤ m.idle ∧ m.idle ≤ 1048576) ∧ (0 ≤ m.hard ∧ m.hard ≤ 1048576) := by
  unfold sndM upB at h
  simp only [Bool.and_eq_true, decide_eq_true_eq] at h
  obtain ⟨hk, _, h1, h2, h3, h4, h5, _⟩ := h
  exact ⟨h1, hk, h2, h3, h4, h5⟩
theorem chk_num (b : Bool) : 0 ≤ (if b then 1 else 0 : Int) ∧ (if b then 1 else 0 : Int) < 256 := by cases b <;> decide
theorem mod_fit (h : sndM m = true) (hw : WfM m) : FitN (modN m) := by
  obtain ⟨_, hk, hp, ho, hi, hh⟩ := snd_mod h
  obtain ⟨c0, c1⟩ := chk_num m.chk
  exact fit_cons (by omega) (by rw [powB_1]; omega) (fit_app (fit_cube hw.m) (fit_cons hp.1 (by rw [powB_2]; omega) (fit_cons hi.1 (by rw [powB_4]; omega) (fit_cons hh.1 (by rw [powB_4]; omega) (fit_cons ho.1 (by rw [powB_1]; omega) (fit_cons c0 (by rw [powB_1]; exact c1) fit_nil))))))
theorem modN_fst (m : Mu) : (modN m).map (·.1) = modS := by unfold modN modS; rw [List.map_cons, List.map_append, cubeN_fst]; rfl
theorem modN_snd (m : Mu) : (modN m).map (·.2) = [m.kind] ++ ((List.range 24).map m.m ++ [m.p, m.idle, m.hard, m.owner, if m.chk then 1 else 0]) := by unfold modN; rw [List.map_cons, List.map_append, cubeN_snd]; rfl
theorem len25 (k : Int) (m : Nat → Int) : ([k] ++ (List.range 24).map m).length = 25 := by simp
theorem mod_tail (m : Mu) {i k : Nat} (hi : i = 25 + k) : nthI ([m.kind] ++ ((List.range 24).map m.m ++ [m.p, m.idle, m.hard, m.owner, if m.chk then 1 else 0])) i = nthI [m.p, m.idle, m.hard, m.owner, if m.chk then 1 else 0] k := by
  rw [← List.append_assoc]
  exact nthI_tail (len25 m.kind m.m) hi
theorem chk_eq (b : Bool) : ((if b then 1 else 0 : Int) == 1) = b := by cases b <;> rfl
theorem chk_odd (b : Bool) : decide (1 < (if b then 1 else 0 : Int)) = false := by cases b <;> decide
theorem mkM_of (hc : ∀ j, 24 ≤ j → m.m j = 0) : mkM ((modN m).map (·.2)) m.acts = m ∧ decide (1 < nthI ((modN m).map (·.2)) 29) = false := by
  rw [modN_snd]
  constructor
  · unfold mkM
    rw [cubeOf_of hc 1 [m.kind] _ rfl, mod_tail m (show 25 = 25 + 0 from rfl), mod_tail m (show 26 = 25 + 1 from rfl), mod_tail m (show 27 = 25 + 2 from rfl), mod_tail m (show 28 = 25 + 3 from rfl), mod_tail m (show 29 = 25 + 4 from rfl)]
    show (⟨m.kind, m.m, m.p, m.acts, m.idle, m.hard, m.owner, (if m.chk then 1 else 0 : Int) == 1⟩ : Mu) = m
    rw [chk_eq]
  · rw [mod_tail m (show 29 = 25 + 4 from rfl)]
    exact chk_odd m.chk
theorem rMod_enc (h : sndM m = true) (hw : WfM m) (hc : ∀ j, 24 ≤ j → m.m j = 0) (t : List Int) : rMod (encM m ++ t) = some ((m, false), t) := by
  have hn := rNums_enc (modN m) (encA m.acts ++ t) (mod_fit h hw)
  rw [modN_fst] at hn
  unfold rMod encM
  rw [List.append_assoc, rBind_some hn, rBind_some (rActs_enc (snd_mod h).1 hw.a t), (mkM_of hc).1, (mkM_of hc).2]
  rfl
theorem rRules_enc (h : ∀ u ∈ us, sndR u = true) (hw : WfUL us) (hc : CanL us) (hl : us.length ≤ 65535) (t : List Int) : rRules (numB 2 (us.length : Int) ++ us.flatMap encR ++ t) = some (us, t) := by
  unfold rRules
  rw [List.append_assoc, rBind_some (rNum_enc 2 (us.length : Int) _ (by omega) (by rw [powB_2]; omega)), Int.toNat_natCast]
  exact rMany_enc us t fun u hu t => rRule_enc (h u hu) (hw u hu) (hc u hu) t
end
section
variable {m : Mu} {h : Nat → Int} {x : Ms}
theorem zero_mod (hm : ∀ j, 24 ≤ j → m.m j = 0) (he : mEq m zMu = true) : m = zMu := by
  unfold mEq at he
  simp only [Bool.and_eq_true, beq_iff_eq] at he
  obtain ⟨e1, e2, e3, e4, e5, e6, e7, e8⟩ := he
  have em : m.m = zMu.m := by
    funext j
    by_cases hj : j < 24
    · exact (cEq_iff _ _).1 e2 j hj
    · rw [hm j (by omega)]; rfl
  have ea := (aEqL_iff _ _).1 e4
  obtain ⟨k, mm, p, ac, i, hd, o, c⟩ := m
  simp only at e1 em e3 ea e5 e6 e7 e8
  subst e1 em e3 ea e5 e6 e7 e8
  rfl
theorem zero_head (hm : ∀ j, 12 ≤ j → h j = 0) (he : hEq h zHd = true) : h = zHd := by
  funext j
  by_cases hj : j < 12
  · exact (hEq_iff _ _).1 he j hj
  · rw [hm j (by omega)]; rfl
theorem snd_txn (hs : sndMs x = true) : 0 ≤ x.txn ∧ x.txn ≤ 4294967295 := by
  unfold sndMs at hs
  rw [Bool.and_eq_true, Bool.and_eq_true, decide_eq_true_eq, decide_eq_true_eq] at hs
  exact hs.1
theorem snd_rest (hs : sndMs x = true) : (if x.kind = 1 then sndM x.mod && ((x.e == 0) && (plainB x && decide (x.rules.length = 0)))
  else if x.kind = 6 then mEq x.mod zMu && ((decide (1 ≤ x.e) && decide (x.e ≤ 17)) && (plainB x && decide (x.rules.length = 0)))
  else if x.kind = 8 then mEq x.mod zMu && ((x.e == 0) && ((decide (1 ≤ x.port) && decide (x.port ≤ 16)) && (sndB x.head && decide (x.rules.length = 0))))
  else if x.kind = 9 then mEq x.mod zMu && ((x.e == 0) && (plainB x && (decide (x.rules.length = 1) && x.rules.all sndR)))
  else if x.kind = 10 then mEq x.mod zMu && ((x.e == 0) && (plainB x && (decide (x.rules.length ≤ 65535) && tabU x.rules)))
  else mEq x.mod zMu && ((x.e == 0) && (plainB x && (decide (x.rules.length = 0) && (decide (2 ≤ x.kind) && decide (x.kind ≤ 7)))))) = true := by
  unfold sndMs at hs
  rw [Bool.and_eq_true] at hs
  exact hs.2
theorem snd_kindR (hs : sndMs x = true) : 1 ≤ x.kind ∧ x.kind ≤ 10 := by
  have h := snd_rest hs
  split at h
  · omega
  · split at h
    · omega
    · split at h
      · omega
      · split at h
        · omega
        · split at h
          · omega
          · simp only [Bool.and_eq_true, decide_eq_true_eq] at h
            omega
theorem plain_of (hc : CanMs x) (h : plainB x = true) : x.port = 0 ∧ x.head = zHd := by
  unfold plainB at h
  rw [Bool.and_eq_true, beq_iff_eq] at h
  exact ⟨h.1, zero_head hc.head h.2⟩
theorem none_of {l : List Ru} (h : l.length = 0) : l = [] := List.length_eq_zero_iff.1 h
/-- what is written is read again -/
theorem rMs_enc (hs : sndMs x = true) (hw : WfMs x) (hc : CanMs x) (t : List Int) : rMs (encMs x ++ t) = some ((x, false), t) := by
  have ht := snd_txn hs
  have hk := snd_kindR hs
  have hr := snd_rest hs
  have hn : rNums [1, 4] (encN [(1, x.kind), (4, x.txn)] ++ (bodyL x ++ t)) = some ([x.kind, x.txn], bodyL x ++ t) :=
    rNums_enc [(1, x.kind), (4, x.txn)] (bodyL x ++ t) (fit_cons (by omega) (by rw [powB_1]; omega) (fit_cons ht.1 (by rw [powB_4]; omega) fit_nil))
  unfold rMs encMs
  rw [List.append_assoc, rBind_some hn]
  show rBody x.kind x.txn (bodyL x ++ t) = some ((x, false), t)
  obtain ⟨k, tx, e, md, pt, hd, rs⟩ := x
  unfold rBody bodyL
  simp only at hr hk ht ⊢
  split at hr
  · rename_i h1
    rw [if_pos h1, if_pos h1]
    simp only [Bool.and_eq_true, beq_iff_eq, decide_eq_true_eq] at hr
    obtain ⟨a1, a2, a3, a4⟩ := hr
    obtain ⟨b1, b2⟩ := plain_of hc a3
    obtain rfl := none_of a4
    simp only at a2 b1 b2
    subst a2 b1 b2
    rw [rBind_some (rMod_enc a1 hw.mod hc.mod t)]
    rfl
  · rename_i h1
    rw [if_neg h1, if_neg h1]
    split at hr
    · rename_i h6
      rw [if_pos h6, if_pos h6]
      simp only [Bool.and_eq_true, decide_eq_true_eq] at hr
      obtain ⟨a1, a2, a3, a4⟩ := hr
      obtain ⟨b1, b2⟩ := plain_of hc a3
      obtain rfl := none_of a4
      obtain rfl := zero_mod hc.mod a1
      simp only at b1 b2
      subst b1 b2
      rw [rBind_some (rNum_enc 1 e t (by omega) (by rw [powB_1]; omega))]
      rfl
    · rename_i h6
      rw [if_neg h6, if_neg h6]
      split at hr
      · rename_i h8
        rw [if_pos h8, if_pos h8]
        simp only [Bool.and_eq_true, beq_iff_eq, decide_eq_true_eq] at hr
        obtain ⟨a1, a2, a3, a4, a5⟩ := hr
        obtain rfl := none_of a5
        obtain rfl := zero_mod hc.mod a1
        subst a2
        have hn2 := rNums_enc ((1, pt) :: headN hd) t (fit_cons (by omega) (by rw [powB_1]; omega) (fit_head hw.head))
        rw [List.map_cons, List.map_cons, headN_fst, headN_snd] at hn2
        rw [rBind_some (show rNums headS (encN ((1, pt) :: headN hd) ++ t) = _ from hn2)]
        have := headOf_of hc.head 1 [pt] rfl
        show some (((⟨k, tx, 0, zMu, pt, headOf ([pt] ++ (List.range 12).map hd) 1, []⟩ : Ms), false), t) = _
        rw [this]
      · rename_i h8
        rw [if_neg h8, if_neg h8]
        split at hr
        · rename_i h9
          rw [if_pos (Or.inl h9), if_pos (Or.inl h9)]
          simp only [Bool.and_eq_true, beq_iff_eq, decide_eq_true_eq, List.all_eq_true] at hr
          obtain ⟨a1, a2, a3, a4, a5⟩ := hr
          obtain ⟨b1, b2⟩ := plain_of hc a3
          obtain rfl := zero_mod hc.mod a1
          simp only at b1 b2
          subst a2 b1 b2
          rw [rBind_some (rRules_enc a5 hw.rules hc.rules (by omega) t)]
          rfl
        · rename_i h9
          split at hr
          · rename_i h10
            rw [if_pos (Or.inr h10), if_pos (Or.inr h10)]
            simp only [Bool.and_eq_true, beq_iff_eq, decide_eq_true_eq] at hr
            obtain ⟨a1, a2, a3, a4, a5⟩ := hr
            obtain ⟨b1, b2⟩ := plain_of hc a3
            obtain rfl := zero_mod hc.mod a1
            simp only at b1 b2
            subst a2 b1 b2
            rw [rBind_some (rRules_enc ((tabU_iff rs).1 a5).1 hw.rules hc.rules a4 t)]
            rfl
          · rename_i h10
            rw [if_neg (by omega), if_neg (by omega)]
            simp only [Bool.and_eq_true, beq_iff_eq, decide_eq_true_eq] at hr
            obtain ⟨a1, a2, a3, a4, _⟩ := hr
            obtain ⟨b1, b2⟩ := plain_of hc a3
            obtain rfl := none_of a4
            obtain rfl := zero_mod hc.mod a1
            simp only at b1 b2
            subst a2 b1 b2
            rfl
end
end Go.Proofs.YtomnpfbebimpkaaGreatDoor

/-
  What is read was written so; what Decode answers: no word of any program.
-/
namespace Go.Proofs.YtomnpfbebimpkaaGreatDoor
set_option maxRecDepth 20000

section
variable {l r b : List Int} {a : Ac} {ac : List Ac} {u : Ru} {us : List Ru} {m : Mu} {x : Ms} {odd : Bool}
theorem rAct_of (hb : ByL l) (h : rAct l = some (a, r)) : FitN (actN a) ∧ l = encN (actN a) ++ r ∧ ByL r := by
  obtain ⟨ns, r1, h1, h2⟩ := rBind_of h
  injection h2 with h2
  injection h2 with h3 h4
  subst h3 h4
  obtain ⟨e1, e2, e3, e4⟩ := rNums_of actS hb h1
  match ns, e1 with
  | [n0, n1, n2, n3], _ => exact ⟨e3, e2, e4⟩
theorem fit_mem {s : Nat} {n : Int} {l : List (Nat × Int)} (h : FitN l) (hx : (s, n) ∈ l) : 0 ≤ n ∧ n < powB s := h (s, n) hx
theorem act_wf (h : FitN (actN a)) : WfA a := by
  have := fit_mem (s := 8) (n := a.v) h (by simp [actN])
  rw [powB_8] at this
  exact this
theorem rActs_of (hb : ByL l) (h : rActs l = some (ac, r)) : (WfAL ac ∧ ac.length < 256) ∧ l = encA ac ++ r ∧ ByL r := by
  obtain ⟨n, r1, h1, h2⟩ := rBind_of h
  obtain ⟨e1, e2, e3, e4⟩ := rNum_of hb h1
  obtain ⟨f1, f2, f3, f4⟩ := rMany_of (enc := fun a => encN (actN a)) (G := fun a => FitN (actN a)) (fun l x r hb h => rAct_of hb h) n.toNat e4 h2
  rw [powB_1] at e3
  refine ⟨⟨fun a ha => act_wf (f2 a ha), by omega⟩, ?_, f4⟩
  unfold encA
  rw [show (ac.length : Int) = n by omega, List.append_assoc, ← f3]
  exact e1
theorem cut25 {ns : List Int} {n : Nat} (h : ns.length = 24 + n) : ∃ c t, ns = c ++ t ∧ c.length = 24 ∧ t.length = n := ⟨ns.take 24, ns.drop 24, (List.take_append_drop 24 ns).symm, by rw [List.length_take]; omega, by rw [List.length_drop]; omega⟩
theorem zip_cube {c : List Int} (hc : c.length = 24) (o : Nat) (a b : List Int) (ho : a.length = o) : (List.replicate 24 8).zip c = cubeN (cubeOf (a ++ (c ++ b)) o) := by
  have h1 := cube_back hc o a b ho
  have h2 : (cubeN (cubeOf (a ++ (c ++ b)) o)).map (·.2) = c := by rw [cubeN_snd]; exact h1
  have h3 := cubeN_fst (cubeOf (a ++ (c ++ b)) o)
  have h4 : ∀ L : List (Nat × Int), (L.map (·.1)).zip (L.map (·.2)) = L := fun L => by
    induction L with
    | nil => rfl
    | cons y L ih => rw [List.map_cons, List.map_cons, List.zip_cons_cons, ih]
  have h5 := h4 (cubeN (cubeOf (a ++ (c ++ b)) o))
  rw [h2, h3] at h5
  exact h5
theorem zip_app {α β : Type} : ∀ {a1 : List α} {b1 : List β} (a2 : List α) (b2 : List β), a1.length = b1.length → (a1 ++ a2).zip (b1 ++ b2) = a1.zip b1 ++ a2.zip b2
  | [], [], _, _, _ => rfl
  | x :: a1, y :: b1, a2, b2, h => by
    rw [List.cons_append, List.cons_append, List.zip_cons_cons, List.zip_cons_cons, zip_app a2 b2 (by simpa using h)]
    rfl
  | [], _ :: _, _, _, h => by simp at h
  | _ :: _, [], _, _, h => by simp at h
theorem cubeOf_can (ns : List Int) (o : Nat) : ∀ j, 24 ≤ j → cubeOf ns o j = 0 := fun j hj => by unfold cubeOf; rw [if_neg (by omega)]
theorem headOf_can (ns : List Int) (o : Nat) : ∀ j, 12 ≤ j → headOf ns o j = 0 := fun j hj => by unfold headOf; rw [if_neg (by omega)]
theorem fit_wf (hc : ∀ j, 24 ≤ j → u.m j = 0) (h : FitN (cubeN u.m)) : Wf u.m := fun j => by
  by_cases hj : j < 24
  · have := fit_mem (s := 8) (n := u.m j) h (by unfold cubeN; exact List.mem_map.2 ⟨j, by simpa using hj, rfl⟩)
    rw [powB_8] at this
    exact this
  · rw [hc j (by omega)]; decide
theorem fit_wfH {h : Nat → Int} (hc : ∀ j, 12 ≤ j → h j = 0) (hf : FitN (headN h)) : Wf h := fun j => by
  by_cases hj : j < 12
  · have := fit_mem (s := 8) (n := h j) hf (by unfold headN; exact List.mem_map.2 ⟨j, by simpa using hj, rfl⟩)
    rw [powB_8] at this
    exact this
  · rw [hc j (by omega)]; decide
theorem sgn_i64 {n : Int} (h : 0 ≤ n ∧ n < powB 8) : I64 (sgnI n) := by
  rw [powB_8] at h
  unfold sgnI I64
  split <;> omega
theorem i64_of_fit {s : Nat} {n : Int} (h : 0 ≤ n ∧ n < powB s) (hs : powB s ≤ 9223372036854775808) : I64 n := by unfold I64; omega
theorem rRule_of (hb : ByL l) (h : rRule l = some (u, r)) : (Can u ∧ WfR u) ∧ l = encR u ++ r ∧ ByL r := by
  obtain ⟨ns, r1, h1, h2⟩ := rBind_of h
  obtain ⟨ac, r2, h3, h4⟩ := rBind_of h2
  injection h4 with h4
  injection h4 with h5 h6
  subst h5 h6
  obtain ⟨e1, e2, e3, e4⟩ := rNums_of ruleS hb h1
  obtain ⟨⟨g1, g2⟩, g3, g4⟩ := rActs_of e4 h3
  obtain ⟨c, t, rfl, hc, ht⟩ := cut25 (n := 7) e1
  match t, ht with
  | [p, i, hd, o, h1', q, g], _ =>
    have hz : ruleS.zip (c ++ [p, i, hd, o, h1', q, g]) = cubeN (cubeOf ([] ++ (c ++ [p, i, hd, o, h1', q, g])) 0) ++ [(2, p), (4, i), (4, hd), (1, o), (8, h1'), (8, q), (8, g)] := by
      unfold ruleS
      rw [zip_app _ _ (by simp [hc]), zip_cube hc 0 [] [p, i, hd, o, h1', q, g] rfl]
      rfl
    rw [hz] at e2 e3
    have hcan : ∀ j, 24 ≤ j → (mkR (c ++ [p, i, hd, o, h1', q, g]) ac).m j = 0 := cubeOf_can _ 0
    have k : mkR (c ++ [p, i, hd, o, h1', q, g]) ac = ⟨cubeOf ([] ++ (c ++ [p, i, hd, o, h1', q, g])) 0, p, ac, i, hd, o, sgnI h1', sgnI q, sgnI g⟩ := by
      unfold mkR
      rw [List.nil_append, nthI_tail hc (show 24 = 24 + 0 from rfl), nthI_tail hc (show 25 = 24 + 1 from rfl), nthI_tail hc (show 26 = 24 + 2 from rfl), nthI_tail hc (show 27 = 24 + 3 from rfl), nthI_tail hc (show 28 = 24 + 4 from rfl), nthI_tail hc (show 29 = 24 + 5 from rfl), nthI_tail hc (show 30 = 24 + 6 from rfl)]
      rfl
    have f : ∀ (s : Nat) (n : Int), (s, n) ∈ [(2, p), (4, i), (4, hd), (1, o), (8, h1'), (8, q), (8, g)] → 0 ≤ n ∧ n < powB s := fun s n hx => fit_mem e3 (List.mem_append_right _ hx)
    refine ⟨⟨hcan, ?_⟩, ?_, g4⟩
    · refine ⟨fit_wf hcan (by rw [k]; exact fun x hx => e3 x (List.mem_append_left _ hx)), g1, by show ac.length * 32 ≤ _; omega, ?_⟩
      rw [k]
      exact ⟨i64_of_fit (f 2 p (by simp)) (by decide), i64_of_fit (f 4 i (by simp)) (by decide), i64_of_fit (f 4 hd (by simp)) (by decide), i64_of_fit (f 1 o (by simp)) (by decide), sgn_i64 (f 8 h1' (by simp)), sgn_i64 (f 8 q (by simp)), sgn_i64 (f 8 g (by simp))⟩
    · rw [k]
      unfold encR ruleN
      rw [e2, g3]
      simp only [encN_app, encN, numB_sgn, List.append_assoc]
theorem rMod_of (hb : ByL l) (h : rMod l = some ((m, false), r)) : ((∀ j, 24 ≤ j → m.m j = 0) ∧ WfM m) ∧ l = encM m ++ r ∧ ByL r := by
  obtain ⟨ns, r1, h1, h2⟩ := rBind_of h
  obtain ⟨ac, r2, h3, h4⟩ := rBind_of h2
  injection h4 with h4
  injection h4 with h5 h6
  injection h5 with h7 h8
  subst h6 h7
  obtain ⟨e1, e2, e3, e4⟩ := rNums_of modS hb h1
  obtain ⟨⟨g1, g2⟩, g3, g4⟩ := rActs_of e4 h3
  match ns, e1 with
  | kd :: ns, e1 =>
    obtain ⟨c, t, rfl, hc, ht⟩ := cut25 (n := 5) (ns := ns) (by simpa [modS] using e1)
    match t, ht with
    | [p, i, hd, o, k0], _ =>
      have hz : modS.zip (kd :: (c ++ [p, i, hd, o, k0])) = (1, kd) :: (cubeN (cubeOf ([kd] ++ (c ++ [p, i, hd, o, k0])) 1) ++ [(2, p), (4, i), (4, hd), (1, o), (1, k0)]) := by
        unfold modS
        rw [List.zip_cons_cons, zip_app _ _ (by simp [hc]), zip_cube hc 1 [kd] [p, i, hd, o, k0] rfl]
        rfl
      rw [hz] at e2 e3
      have hl : ([kd] ++ c).length = 25 := by simp [hc]
      have tl : ∀ {i' k' : Nat}, i' = 25 + k' → nthI (kd :: (c ++ [p, i, hd, o, k0])) i' = nthI [p, i, hd, o, k0] k' := fun {i' k'} e => by
        have := nthI_tail (b := [p, i, hd, o, k0]) hl e
        rw [List.append_assoc] at this
        exact this
      have hodd : k0 ≤ 1 := by
        rw [tl (show 29 = 25 + 4 from rfl)] at h8
        have h8' : decide (1 < k0) = false := h8
        have := of_decide_eq_false h8'
        omega
      have hk0 := fit_mem (s := 1) (n := k0) e3 (by simp)
      have hchk : (if (k0 == 1) = true then 1 else 0 : Int) = k0 := by
        by_cases e : k0 = 1
        · subst e; rfl
        · rw [if_neg (by simpa using e)]; omega
      have k : mkM (kd :: (c ++ [p, i, hd, o, k0])) ac = ⟨kd, cubeOf ([kd] ++ (c ++ [p, i, hd, o, k0])) 1, p, ac, i, hd, o, k0 == 1⟩ := by
        unfold mkM
        rw [tl (show 25 = 25 + 0 from rfl), tl (show 26 = 25 + 1 from rfl), tl (show 27 = 25 + 2 from rfl), tl (show 28 = 25 + 3 from rfl), tl (show 29 = 25 + 4 from rfl)]
        rfl
      have hcan : ∀ j, 24 ≤ j → (mkM (kd :: (c ++ [p, i, hd, o, k0])) ac).m j = 0 := cubeOf_can _ 1
      have f : ∀ (s : Nat) (n : Int), (s, n) ∈ [(2, p), (4, i), (4, hd), (1, o), (1, k0)] → 0 ≤ n ∧ n < powB s := fun s n hx => fit_mem e3 (List.mem_cons_of_mem _ (List.mem_append_right _ hx))
      refine ⟨⟨hcan, ?_⟩, ?_, g4⟩
      · refine ⟨fit_wf (u := ⟨(mkM (kd :: (c ++ [p, i, hd, o, k0])) ac).m, 0, [], 0, 0, 0, 0, 0, 0⟩) hcan (by rw [k]; exact fun x hx => e3 x (List.mem_cons_of_mem _ (List.mem_append_left _ hx))), g1, by show ac.length * 32 ≤ _; omega, ?_⟩
        rw [k]
        exact ⟨i64_of_fit (fit_mem (s := 1) (n := kd) e3 (List.mem_cons_self ..)) (by decide), i64_of_fit (f 2 p (by simp)) (by decide), i64_of_fit (f 4 i (by simp)) (by decide), i64_of_fit (f 4 hd (by simp)) (by decide), i64_of_fit (f 1 o (by simp)) (by decide)⟩
      · rw [k]
        unfold encM modN
        rw [e2, g3]
        simp only [encN_app, encN, hchk, List.append_assoc]
theorem rRules_of (hb : ByL l) (h : rRules l = some (us, r)) : (CanL us ∧ WfUL us ∧ us.length ≤ 65535) ∧ l = numB 2 (us.length : Int) ++ us.flatMap encR ++ r ∧ ByL r := by
  obtain ⟨n, r1, h1, h2⟩ := rBind_of h
  obtain ⟨e1, e2, e3, e4⟩ := rNum_of hb h1
  obtain ⟨f1, f2, f3, f4⟩ := rMany_of (enc := encR) (G := fun u => Can u ∧ WfR u) (fun l x r hb h => rRule_of hb h) n.toNat e4 h2
  rw [powB_2] at e3
  refine ⟨⟨fun u hu => (f2 u hu).1, fun u hu => (f2 u hu).2, by omega⟩, ?_, f4⟩
  rw [show (us.length : Int) = n by omega, List.append_assoc, ← f3]
  exact e1
theorem zMu_wf : WfM zMu := ⟨fun _ => (⟨by decide, by decide⟩ : (0 : Int) ≤ 0 ∧ (0 : Int) < 18446744073709551616), fun a ha => (by cases ha), by decide, i640, i640, i640, i640, i640⟩
theorem zHd_wf : Wf zHd := fun _ => (⟨by decide, by decide⟩ : (0 : Int) ≤ 0 ∧ (0 : Int) < 18446744073709551616)
theorem wf_plain {k t e : Int} {rs : List Ru} (h : WfUL rs) : WfMs ⟨k, t, e, zMu, 0, zHd, rs⟩ := ⟨zMu_wf, zHd_wf, h⟩
theorem can_plain {k t e : Int} {rs : List Ru} (h : CanL rs) : CanMs ⟨k, t, e, zMu, 0, zHd, rs⟩ := ⟨fun _ _ => rfl, fun _ _ => rfl, h⟩
theorem wfU_nil : WfUL [] := fun u hu => by cases hu
theorem canL_nil : CanL [] := fun u hu => by cases hu
/-- what is read was written so -/
theorem rMs_of (hb : ByL b) (h : rMs b = some ((x, false), r)) : (CanMs x ∧ WfMs x) ∧ b = encMs x ++ r ∧ ByL r := by
  obtain ⟨ns, r1, h1, h2⟩ := rBind_of h
  obtain ⟨e1, e2, e3, e4⟩ := rNums_of [1, 4] hb h1
  match ns, e1 with
  | [k, t], _ =>
    have e2' : b = encN [(1, k), (4, t)] ++ r1 := e2
    have h2' : rBody k t r1 = some ((x, false), r) := h2
    unfold rBody at h2'
    split at h2'
    · rename_i hk
      obtain ⟨y, r2, h3, h4⟩ := rBind_of h2'
      injection h4 with h4
      injection h4 with h5 h6
      injection h5 with h7 h8
      subst h6 h7
      obtain ⟨md, od⟩ := y
      simp only at h8
      subst h8
      obtain ⟨⟨c1, w1⟩, g1, g2⟩ := rMod_of e4 h3
      refine ⟨⟨⟨c1, fun _ _ => rfl, canL_nil⟩, ⟨w1, zHd_wf, wfU_nil⟩⟩, ?_, g2⟩
      unfold encMs bodyL
      simp only
      rw [if_pos hk, e2', g1, List.append_assoc]
    · rename_i hk
      split at h2'
      · rename_i h6
        obtain ⟨y, r2, h3, h4⟩ := rBind_of h2'
        injection h4 with h4
        injection h4 with h5 h6'
        injection h5 with h7 h8
        subst h6' h7
        obtain ⟨g1, _, _, g2⟩ := rNum_of e4 h3
        refine ⟨⟨can_plain canL_nil, wf_plain wfU_nil⟩, ?_, g2⟩
        unfold encMs bodyL
        simp only
        rw [if_neg hk, if_pos h6, e2', g1, List.append_assoc]
      · rename_i h6
        split at h2'
        · rename_i h8
          obtain ⟨y, r2, h3, h4⟩ := rBind_of h2'
          injection h4 with h4
          injection h4 with h5 h6'
          injection h5 with h7 h8'
          subst h6' h7
          obtain ⟨g1, g2, g3, g4⟩ := rNums_of headS e4 h3
          match y, g1 with
          | p :: c, g1 =>
            have hc : c.length = 12 := by simpa [headS] using g1
            have hz : headS.zip (p :: c) = (1, p) :: headN (headOf ([p] ++ c) 1) := by
              have h1 := head_back hc [p] 1 rfl
              have h2 : (headN (headOf ([p] ++ c) 1)).map (·.2) = c := by rw [headN_snd]; exact h1
              have h3 := headN_fst (headOf ([p] ++ c) 1)
              have h4 : ∀ L : List (Nat × Int), (L.map (·.1)).zip (L.map (·.2)) = L := fun L => by
                induction L with
                | nil => rfl
                | cons y L ih => rw [List.map_cons, List.map_cons, List.zip_cons_cons, ih]
              have h5 := h4 (headN (headOf ([p] ++ c) 1))
              rw [h2, h3] at h5
              unfold headS
              rw [List.zip_cons_cons, h5]
            rw [hz] at g2 g3
            refine ⟨⟨⟨fun _ _ => rfl, headOf_can _ 1, canL_nil⟩, ⟨zMu_wf, fit_wfH (headOf_can _ 1) (fun x hx => g3 x (List.mem_cons_of_mem _ hx)), wfU_nil⟩⟩, ?_, g4⟩
            unfold encMs bodyL
            simp only
            rw [if_neg hk, if_neg h6, if_pos h8, e2', g2, List.append_assoc]
            rfl
        · rename_i h8
          split at h2'
          · rename_i h9
            obtain ⟨y, r2, h3, h4⟩ := rBind_of h2'
            injection h4 with h4
            injection h4 with h5 h6'
            injection h5 with h7 h8'
            subst h6' h7
            obtain ⟨⟨c1, w1, _⟩, g1, g2⟩ := rRules_of e4 h3
            refine ⟨⟨can_plain c1, wf_plain w1⟩, ?_, g2⟩
            unfold encMs bodyL
            simp only
            rw [if_neg hk, if_neg h6, if_neg h8, if_pos h9, e2', g1]
            simp only [List.append_assoc]
          · rename_i h9
            injection h2' with h4
            injection h4 with h5 h6'
            injection h5 with h7 h8'
            subst h6' h7
            refine ⟨⟨can_plain canL_nil, wf_plain wfU_nil⟩, ?_, e4⟩
            unfold encMs bodyL
            simp only
            rw [if_neg hk, if_neg h6, if_neg h8, if_neg h9, e2', List.append_nil]
theorem encR_byte (u : Ru) : ByL (encR u) := ByL.app (encN_byte _) (ByL.app (numB_byte _ _) fun y hy => by
  obtain ⟨a, _, h⟩ := List.mem_flatMap.1 hy
  exact encN_byte _ y h)
theorem encMs_byte (x : Ms) : ByL (encMs x) := by
  refine ByL.app (encN_byte _) ?_
  unfold bodyL
  split
  · exact ByL.app (encN_byte _) (ByL.app (numB_byte _ _) fun y hy => by
      obtain ⟨a, _, h⟩ := List.mem_flatMap.1 hy
      exact encN_byte _ y h)
  · split
    · exact numB_byte _ _
    · split
      · exact encN_byte _
      · split
        · exact ByL.app (numB_byte _ _) fun y hy => by
            obtain ⟨a, _, h⟩ := List.mem_flatMap.1 hy
            exact encR_byte a y h
        · exact fun y hy => by cases hy
/-- Decode of what Encode gives -/
theorem dec_enc (hs : sndMs x = true) (hw : WfMs x) (hc : CanMs x) : decE (encMs x) = 0 ∧ decV (encMs x) = x := by
  have h := rMs_enc hs hw hc []
  rw [List.append_nil] at h
  unfold decE decV
  rw [h]
  simp [hs]
/-- what Decode reads, encoded -/
theorem enc_dec (hb : ByL b) (h : decE b = 0) : (sndMs (decV b) = true ∧ CanMs (decV b) ∧ WfMs (decV b)) ∧ encMs (decV b) = b := by
  unfold decE at h
  unfold decV
  cases hr : rMs b with
  | none => rw [hr] at h; cases h
  | some y =>
    obtain ⟨⟨m, od⟩, r⟩ := y
    rw [hr] at h
    simp only at h ⊢
    by_cases hq : od = false ∧ r = [] ∧ sndMs m = true
    · rw [if_pos hq]
      obtain ⟨rfl, rfl, hs⟩ := hq
      obtain ⟨⟨c1, w1⟩, e1, _⟩ := rMs_of hb hr
      rw [List.append_nil] at e1
      exact ⟨⟨hs, c1, w1⟩, e1.symm⟩
    · rw [if_neg hq] at h
      cases h
theorem dec_no (h : decE b ≠ 0) : decV b = zMs := by
  unfold decE at h
  unfold decV
  cases hr : rMs b with
  | none => rfl
  | some y =>
    obtain ⟨⟨m, od⟩, r⟩ := y
    rw [hr] at h
    simp only at h ⊢
    by_cases hq : od = false ∧ r = [] ∧ sndMs m = true
    · rw [if_pos hq] at h; exact absurd rfl h
    · rw [if_neg hq]
/-- a beginning of a message is none -/
theorem dec_cut (hs : sndMs x = true) (hw : WfMs x) (hc : CanMs x) {n : Nat} (hn : n < (encMs x).length) : decE ((encMs x).take n) = 8 := by
  have h := rMs_enc hs hw hc []
  rw [List.append_nil] at h
  unfold decE
  rw [cut_none rMs_ok h hn]
/-- a message with more behind it is none -/
theorem dec_more (hs : sndMs x = true) (hw : WfMs x) (hc : CanMs x) {t : List Int} (ht : t ≠ []) : decE (encMs x ++ t) = 2 := by
  unfold decE
  rw [rMs_enc hs hw hc t]
  simp [ht]
theorem msEq_iff {y : Ms} (hx : CanMs x) (hy : CanMs y) : msEq x y = true ↔ x = y := by
  constructor
  · intro h
    unfold msEq at h
    simp only [Bool.and_eq_true, beq_iff_eq] at h
    obtain ⟨e1, e2, e3, e4, e5, e6, e7⟩ := h
    have em : x.mod = y.mod := by
      have hm := hx.mod
      have hm' := hy.mod
      unfold mEq at e4
      simp only [Bool.and_eq_true, beq_iff_eq] at e4
      obtain ⟨f1, f2, f3, f4, f5, f6, f7, f8⟩ := e4
      have fm : x.mod.m = y.mod.m := by
        funext j
        by_cases hj : j < 24
        · exact (cEq_iff _ _).1 f2 j hj
        · rw [hm j (by omega), hm' j (by omega)]
      have fa := (aEqL_iff _ _).1 f4
      cases hxm : x.mod with
      | mk a1 a2 a3 a4 a5 a6 a7 a8 =>
        cases hym : y.mod with
        | mk b1 b2 b3 b4 b5 b6 b7 b8 =>
          rw [hxm, hym] at f1 fm f3 fa f5 f6 f7 f8
          simp only at f1 fm f3 fa f5 f6 f7 f8
          subst f1 fm f3 fa f5 f6 f7 f8
          rfl
    have eh : x.head = y.head := by
      funext j
      by_cases hj : j < 12
      · exact (hEq_iff _ _).1 e6 j hj
      · rw [hx.head j (by omega), hy.head j (by omega)]
    have er := (sameL_eq hx.rules hy.rules).1 e7
    obtain ⟨a1, a2, a3, a4, a5, a6, a7⟩ := x
    obtain ⟨b1, b2, b3, b4, b5, b6, b7⟩ := y
    simp only at e1 e2 e3 em e5 eh er
    subst e1 e2 e3 em e5 eh er
    rfl
  · rintro rfl
    unfold msEq
    simp [mEq_self, sameL_self, (hEq_iff x.head x.head).2 fun _ _ => rfl]
/-- messages with the same bytes are the same -/
theorem enc_inj {y : Ms} (hx : sndMs x = true) (hy : sndMs y = true) (wx : WfMs x) (wy : WfMs y) (cx : CanMs x) (cy : CanMs y) (h : encMs x = encMs y) : x = y := by
  have h1 := (dec_enc hx wx cx).2
  have h2 := (dec_enc hy wy cy).2
  rw [h, h2] at h1
  exact h1.symm
end
end Go.Proofs.YtomnpfbebimpkaaGreatDoor
