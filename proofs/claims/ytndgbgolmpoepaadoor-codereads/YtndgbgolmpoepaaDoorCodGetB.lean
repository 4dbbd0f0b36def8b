/-
  What is read, put together of its parts: no word of any program.
-/
import Derived.Test.YtndgbgolmpoepaaDoorCodGet
namespace Go.Proofs.YtndgbgolmpoepaaDoor
set_option maxRecDepth 20000

theorem gNs_app : ∀ (a b : List Nat) (x : Sta), gNs (a ++ b) x = ((gNs a x).1 ++ (gNs b (gNs a x).2).1, (gNs b (gNs a x).2).2)
  | [], b, x => rfl
  | s :: a, b, x => by
    rw [List.cons_append, gNs, gNs_app a b, gNs]
    rfl
theorem gNs_snoc (r : Nat) (x : Sta) : gNs (List.replicate (r + 1) 8) x = ((gNs (List.replicate r 8) x).1 ++ [(gN 8 (gNs (List.replicate r 8) x).2).1], (gN 8 (gNs (List.replicate r 8) x).2).2) := by
  rw [List.replicate_succ', gNs_app]
  rfl
theorem rep_len (r : Nat) (x : Sta) : (gNs (List.replicate r 8) x).1.length = r := by rw [gNs_len, List.length_replicate]
theorem rep_split (x : Sta) : gNs (List.replicate 24 8) x = ((gNs (List.replicate 12 8) x).1 ++ (gNs (List.replicate 12 8) (gNs (List.replicate 12 8) x).2).1, (gNs (List.replicate 12 8) (gNs (List.replicate 12 8) x).2).2) :=
  gNs_app (List.replicate 12 8) (List.replicate 12 8) x
/-- two headers as a cube -/
def joinC (a c : Nat → Int) : Nat → Int := fun j => if j < 12 then a j else c (j - 12)
theorem joinC_of {l k : List Int} (h : l.length = 12) (j : Nat) (hj : j < 24) : joinC (nthI l) (nthI k) j = cubeOf (l ++ k) 0 j := by
  unfold joinC cubeOf
  rw [if_pos hj, Nat.zero_add]
  split
  · rw [nthI_left (by omega)]
  · rw [nthI_right (k := j - 12) (by omega)]
theorem cubeOf_mid {c b : List Int} (hc : c.length = 24) (n : Int) : cubeOf (n :: (c ++ b)) 1 = cubeOf c 0 := by
  funext j
  unfold cubeOf
  split
  · rw [show 1 + j = j + 1 by omega, nthI_cons, nthI_left (by omega), Nat.zero_add]
  · rfl
theorem cubeOf_left {c b : List Int} (hc : c.length = 24) : cubeOf (c ++ b) 0 = cubeOf c 0 := by
  funext j
  unfold cubeOf
  split
  · rw [Nat.zero_add, nthI_left (by omega)]
  · rfl
theorem nthI_past {c b : List Int} (hc : c.length = 24) (i : Nat) : nthI (c ++ b) (24 + i) = nthI b i := nthI_right (by omega)
theorem nthI_past1 {c b : List Int} (hc : c.length = 24) (n : Int) (i : Nat) : nthI (n :: (c ++ b)) (25 + i) = nthI b i := by
  rw [show 25 + i = (24 + i) + 1 by omega, nthI_cons, nthI_past hc]
/-- a rule read, part by part -/
theorem gRule_parts (x : Sta) {c : List Int} {p i h o n1 n2 n3 : Int} {x0 x1 x2 x3 x4 x5 x6 x7 x8 : Sta} {ac : List Ac} (h0 : gNs (List.replicate 24 8) x = (c, x0)) (h1 : gN 2 x0 = (p, x1)) (h2 : gN 4 x1 = (i, x2)) (h3 : gN 4 x2 = (h, x3)) (h4 : gN 1 x3 = (o, x4))
    (h5 : gN 8 x4 = (n1, x5)) (h6 : gN 8 x5 = (n2, x6)) (h7 : gN 8 x6 = (n3, x7)) (h8 : gActs x7 = (ac, x8)) : gRule x = (⟨cubeOf c 0, p, ac, i, h, o, sgnI n1, sgnI n2, sgnI n3⟩, x8) := by
  have hl : c.length = 24 := by have := rep_len 24 x; rw [h0] at this; exact this
  have e : gNs ruleS x = (c ++ [p, i, h, o, n1, n2, n3], x7) := by
    unfold ruleS
    rw [gNs_app, h0]
    simp only [gNs]
    rw [h1, h2, h3, h4, h5, h6, h7]
  unfold gRule
  rw [e, h8]
  unfold mkR
  rw [cubeOf_left hl]
  have q := fun k => nthI_past (b := [p, i, h, o, n1, n2, n3]) hl k
  rw [q 0, q 1, q 2, q 3, q 4, q 5, q 6]
  rfl
/-- a change read, part by part -/
theorem gMod_parts (f : Int → Bool) (x : Sta) {c : List Int} {k p i h o q : Int} {x' x0 x1 x2 x3 x4 x5 x6 : Sta} {ac : List Ac} (hk : gN 1 x = (k, x')) (h0 : gNs (List.replicate 24 8) x' = (c, x0)) (h1 : gN 2 x0 = (p, x1)) (h2 : gN 4 x1 = (i, x2)) (h3 : gN 4 x2 = (h, x3)) (h4 : gN 1 x3 = (o, x4))
    (h5 : gN 1 x4 = (q, x5)) (h8 : gActs x5 = (ac, x6)) : gMod f x = ((⟨k, cubeOf c 0, p, ac, i, h, o, f q⟩, decide (1 < q)), x6) := by
  have hl : c.length = 24 := by have := rep_len 24 x'; rw [h0] at this; exact this
  have e : gNs modS x = (k :: (c ++ [p, i, h, o, q]), x5) := by
    unfold modS
    rw [gNs, hk]
    simp only
    rw [gNs_app, h0]
    simp only [gNs]
    rw [h1, h2, h3, h4, h5]
  unfold gMod
  rw [e, h8]
  unfold mkMf
  rw [cubeOf_mid hl]
  have qq := fun j => nthI_past1 (b := [p, i, h, o, q]) hl k j
  rw [qq 0, qq 1, qq 2, qq 3, qq 4]
  rfl
theorem gMany_step {α : Type} (g : Sta → α × Sta) (n : Nat) {x x1 : Sta} {a : α} (hs : x.2 = false) (h : g x = (a, x1)) : gMany g (n + 1) x = (a :: (gMany g n x1).1, (gMany g n x1).2) := by
  rw [gMany, if_neg (by rw [hs]; simp), h]
theorem gMany_stop {α : Type} (g : Sta → α × Sta) (n : Nat) {x : Sta} (hs : x.2 = true) : gMany g n x = ([], x) := by
  cases n with
  | zero => rfl
  | succ n => rw [gMany, if_pos hs]
theorem gAct_parts (x : Sta) {k p f v : Int} {x1 x2 x3 x4 : Sta} (h1 : gN 1 x = (k, x1)) (h2 : gN 1 x1 = (p, x2)) (h3 : gN 1 x2 = (f, x3)) (h4 : gN 8 x3 = (v, x4)) : gAct x = (⟨k, p, f, v⟩, x4) := by
  have e : gNs actS x = ([k, p, f, v], x4) := by
    unfold actS
    simp only [gNs]
    rw [h1, h2, h3, h4]
  unfold gAct
  rw [e]
  rfl
end Go.Proofs.YtndgbgolmpoepaaDoor
