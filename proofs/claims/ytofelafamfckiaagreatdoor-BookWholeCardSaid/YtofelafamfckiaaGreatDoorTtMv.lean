/- Shorter forms of what the texts say often. -/
import Derived.OrdersHeld
import Derived.Below
import Derived.Lib.Hide
namespace Go.Proofs.YtofelafamfckiaaGreatDoor
open Go Go.RowKit
theorem zm {P:Program} {md:Region.Mode} {ops:Array Oper} {Q:Exit→Act→World→Prop} {S:World→Prop} (i:Nat) (oi:Oper) (v:Value) {fuel:Nat} {listed:Array Bool} {a:Act} {w:World} (hi:ops[i]? = some oi)
  (hc:(Region.noSelect ops&&Region.free md ops listed i&&(Region.ready md ops listed).contains i)=true) (hQ:∀ c a w,Q (.panic c) (a.put oi.dst v) w→Q (.panic c) a w) (hw:Region.wanted oi (yielded ops a.tmps)=true) (hS:S w)
  (hv:∀ w,S w→(execOp a.eval oi).run P w = .ok (.value v) w)
  (h:wpAnyH P md ops Q S fuel (listed.setIfInBounds i true) (a.put oi.dst v) w):wpAnyH P md ops Q S (fuel+1) listed a w:=by
 simp only [Bool.and_eq_true] at hc;exact wpAnyH_take hi hc.1.1 hc.1.2 hc.2 hQ (.inl ⟨hw,hv⟩) hS h
theorem zh {p:Prop} (h:p):RowKit.Hid p:=h
theorem zT {p:Prop} [Decidable p] (h:p):decide p=true:=decide_eq_true h
theorem zF {p:Prop} [Decidable p] (h:¬p):decide p=false:=decide_eq_false h
theorem zB {w w1 w2:World} (hb:Below w1.heap.size w1 w2) (h:RowKit.Hid (Below w.heap.size w w1)):RowKit.Hid (Below w.heap.size w w2):=h.out.trans (hb.mono h.out.size)
theorem zL {a:Nat} {w1 w2:World} (hb:Below w1.heap.size w1 w2) (h:RowKit.Hid (a<w1.heap.size)):RowKit.Hid (a<w2.heap.size):=Nat.lt_of_lt_of_le h.out hb.size
theorem zR {a:Nat} {c:Obj} {w1 w2:World} (hb:Below w1.heap.size w1 w2) (l:RowKit.Hid (a<w1.heap.size)) (h:RowKit.Hid (w1.heap[a]? = some c)):RowKit.Hid (w2.heap[a]? = some c):=(hb.block _ l.out).trans h.out
theorem zo (w:World) (a:Array Value) (s:TypeId):∃ W0,RowKit.Hid (Below w.heap.size w W0)∧RowKit.Hid (W0.heap[w.heap.size]? = some (.cells a s (0,0)))∧w.heap.size<W0.heap.size∧RowKit.Hid (W0=w.alloc (.cells a s)):=
 ⟨_,(Below.refl _ _).alloc (Nat.le_refl _) _,by show (w.heap.push _)[w.heap.size]? = _;simp,by show _<(w.heap.push _).size;rw [Array.size_push];exact Nat.lt_succ_self _,rfl⟩
theorem zw (w:World) (a b:Array Value) (s t:TypeId):∃ W0,RowKit.Hid (Below w.heap.size w W0)∧RowKit.Hid (W0.heap.size=w.heap.size+2)∧RowKit.Hid (W0.heap[w.heap.size]? = some (.cells a s (0,0)))∧RowKit.Hid (W0.heap[w.heap.size+1]? = some (.cells b t (0,0)))∧w.heap.size<W0.heap.size∧w.heap.size+1<W0.heap.size∧RowKit.Hid (W0=(w.alloc (.cells a s)).alloc (.cells b t)):=by
 obtain ⟨U,h1,h2,h3,h4⟩:=zo w a s;obtain ⟨W,k1,k2,k3,k4⟩:=zo U b t;have hs:U.heap.size=w.heap.size+1:=by rw [h4.out];show (w.heap.push _).size=_;rw [Array.size_push]
 have ks:W.heap.size=U.heap.size+1:=by rw [k4.out];show (U.heap.push _).size=_;rw [Array.size_push]
 refine ⟨W,h1.out.trans (k1.out.mono (by omega)),(by show W.heap.size=w.heap.size+2;omega),(k1.out.block _ h3).trans h2.out,?_,by omega,by omega,?_⟩
 ·have:=k2.out;rwa [hs] at this
 ·have:=k4.out;rw [h4.out] at this;exact this
