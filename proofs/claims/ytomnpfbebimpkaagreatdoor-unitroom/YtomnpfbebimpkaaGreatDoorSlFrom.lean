/-
  Parts of slices: s[c:], s[:c].
-/
import Derived.Test.YtomnpfbebimpkaaGreatDoorPackAct
import Derived.Test.YtomnpfbebimpkaaGreatDoorSq
namespace Go.Proofs.YtomnpfbebimpkaaGreatDoor
set_option maxRecDepth 20000
open Go.RowKit
def fromV (n : Nat) (p : Option Addr) (len cap c : Nat) : Value := .slice (if cap = c then p else p.map (·.add (c * n))) (len - c) (cap - c)
section
variable {α : Type} {K : Kd α} {W : World} {l : List α} {p : Option Addr} {n cap c : Nat}
theorem KLies.from (h:KLies K (.slice p l.length cap) l W) (hc:c≤l.length):KLies K (fromV K.n p l.length cap c) (l.drop c) W:=by
 rcases h with⟨e,rfl⟩|⟨ad,cap',e,hcap,hr⟩
 ·injection e with e1 e2 e3;subst e1 e3;have:c=0:=(by simpa using hc);subst this;exact .inl ⟨by simp[fromV],by simp⟩
 ·injection e with e1 e2 e3;subst e1 e3;by_cases hcc:cap=c
  ·have hl:l.drop c=[]:=List.drop_of_length_le (by omega);rw[hl];refine .inr ⟨ad,cap - c,?_,Nat.zero_le _,fun i a hi=>by simp at hi⟩;unfold fromV;rw[if_pos hcc];have:l.length - c=0:=(by omega);rw[this];rfl
  ·refine .inr ⟨ad.add (c*K.n),cap - c,?_,by rw[List.length_drop];omega,fun i a hi=>?_⟩
   ·unfold fromV;rw[if_neg hcc,List.length_drop];rfl
   ·rw[List.getElem?_drop] at hi;obtain⟨h1,h2⟩:=hr (c+i) a hi;obtain⟨bb,oo,ss⟩:=ad;have e:ss=none:=h1;subst e;rw[Addr.add_mid];refine⟨rfl,?_⟩;have e2:oo+c*K.n+i*K.n=oo+(c+i)*K.n:=(by rw[Nat.add_mul];omega);show W.rangeAt bb (oo+c*K.n+i*K.n) (K.cells a);rw[e2];exact h2
theorem KLies.upto (h:KLies K (.slice p l.length cap) l W) (hc:c≤l.length):KLies K (.slice p c cap) (l.take c) W:=by
 rcases h with⟨e,rfl⟩|⟨ad,cap',e,hcap,hr⟩
 ·injection e with e1 e2 e3;subst e1 e3;have:c=0:=(by simpa using hc);subst this;exact .inl ⟨rfl,rfl⟩
 ·injection e with e1 e2 e3;subst e1 e3;refine .inr ⟨ad,cap,by rw[List.length_take,Nat.min_eq_left hc],by rw[List.length_take];omega,fun i a hi=>?_⟩;rw[List.getElem?_take] at hi;split at hi
  ·exact hr i a hi
  ·cases hi
theorem KLies.capLe (h:KLies K (.slice p l.length cap) l W):l.length≤cap:=by
 rcases h with⟨e,rfl⟩|⟨ad,cap',e,hcap,_⟩
 ·simp
 ·injection e with e1 e2 e3;omega
end
end Go.Proofs.YtomnpfbebimpkaaGreatDoor
