/- Merged: WoF SmA. -/
import Derived.Test.YtnecfkhbncepnaaGreatDoorTt12
import Derived.Deep.AppendLies
namespace Go.Proofs.YtnecfkhbncepnaaGreatDoor
namespace Wo
open Go.Proofs Go.RowKit Utf Nu
theorem qn1:(Tryz.prog.info? 9).map (fun i=>(i.zero,i.size,i.bytes))=some (some (.string ⟨#[]⟩),1,16):=by kernel_rfl
theorem qbp {c:Int} (h0:0≤c) (h1:c≤255):((c.toNat.toUInt8).toNat:Int)=c:=by
 obtain ⟨n,rfl⟩:=Int.eq_ofNat_of_zero_le h0;have:n<256:=by omega
 simp [Nat.mod_eq_of_lt this]
section
variable {c:UInt8} {l:List UInt8} {k f:Nat} {ps:List (List UInt8)}
end
end Wo
namespace Sm
open Go.Proofs Go.RowKit Utf Nu Wo
def prC (p:Pr):List Value:=[.string (aa p.nm),.int .i64 p.fm,.string (aa p.ar),.bool p.mu,.string (aa p.df)]
def prV (p:Pr):Value:= .agg #[.string (aa p.nm),.int .i64 p.fm,.string (aa p.ar),.bool p.mu,.string (aa p.df)]
def aR (ps:List Pr):List Value:=(ps.map prC).flatten
theorem qaG (a b:List Pr):aR (a++b)=aR a++aR b:=by simp [aR]
theorem qhw (t:Pr):aR [t]=prC t:=by simp [aR]
theorem cd (ts:List Pr):(aR ts).length=ts.length*5:=by
 induction ts with
 | nil=>rfl
 | cons a r ih=>rw [show a::r=[a]++r from rfl,qaG,List.length_append,ih,qhw,prC];simp;omega
theorem qaT (ts:List Pr):∀ (i:Nat) (h:i<ts.length) (j:Nat),j<5→(aR ts)[i*5+j]? = (prC ts[i])[j]?:=by
 induction ts with
 | nil=>intro i h;simp at h
 | cons a r ih=>
  intro i h j hj;have e:aR (a::r)=prC a++aR r:=by rw [show a::r=[a]++r from rfl,qaG,qhw]
  rw [e];cases i with
  | zero=>
   rw [List.getElem?_append_left (by show 0*5+j<5;omega),Nat.zero_mul,Nat.zero_add];rfl
  | succ k=>
   rw [List.getElem?_append_right (by show 5≤_;omega),show (k+1)*5+j-(prC a).length=k*5+j by show (k+1)*5+j-5=_;omega];exact ih k (by simpa using h) j hj
def RdP (w:World) (B:Nat) (v:Value) (ps:List Pr):Prop:=
 ∃ A c,v = .slice A ps.length c∧(0<ps.length→∃ g,A=some ⟨g,0,none⟩∧g<B∧∀ j u,(aR ps)[j]? = some u→w.cell? ⟨g,j,none⟩=some u)
section
variable {w w':World} {B B':Nat} {v:Value} {ps:List Pr}
theorem RdP.keep (h:RdP w B v ps) (hk:∀ p:Addr,p.block<B→w'.cell? p=w.cell? p):RdP w' B v ps:=by
 obtain ⟨A,c,rfl,hc⟩:=h;refine ⟨A,c,rfl,fun h0=>?_⟩;obtain ⟨g,rfl,hb,hx⟩:=hc h0;exact ⟨g,rfl,hb,fun j u hu=>(hk ⟨g,j,none⟩ hb).trans (hx j u hu)⟩
theorem RdP.below (h:RdP w B v ps) (hb:Below B' w w') (hB:B≤B'):RdP w' B v ps:=h.keep fun _ hp=>hb.cell (by omega)
theorem RdP.more (h:RdP w B v ps) (hB:B≤B'):RdP w B' v ps:=by
 obtain ⟨A,c,rfl,hc⟩:=h;refine ⟨A,c,rfl,fun h0=>?_⟩;obtain ⟨g,rfl,hb,hx⟩:=hc h0;exact ⟨g,rfl,by omega,hx⟩
theorem RdP.of_own {base E:Nat} (h:w.ownsRow base E 5 v ps.length (aR ps)):RdP w w.heap.size v ps:=by
 have hlt:=h.lt;have hcell:= @World.ownsRow.cells w base E 5 v ps.length (aR ps) h;rcases h.2 with ⟨rfl,h0⟩ | ⟨g,cap,cur,rfl,_,_,_⟩
 ·exact ⟨none,0,by rw [h0],fun h=>by omega⟩
 ·refine ⟨some ⟨g,0,none⟩,cap,rfl,fun _=>⟨g,rfl,(hlt g rfl).2,fun j u hu=>?_⟩⟩;have:=hcell rfl j u hu;rwa [show (⟨g,0,none⟩:Addr).add j=⟨g,j,none⟩ by unfold Addr.add;split <;> simp_all] at this
def P5 (w:World) (g o:Nat) (p:Pr):Prop:=
 w.cell? ⟨g,o,none⟩=some (.string (aa p.nm))∧w.cell? ⟨g,o+1,none⟩=some (.int .i64 p.fm)∧w.cell? ⟨g,o+2,none⟩=some (.string (aa p.ar))∧w.cell? ⟨g,o+3,none⟩=some (.bool p.mu)∧w.cell? ⟨g,o+4,none⟩=some (.string (aa p.df))
theorem RdP.at_ (h:RdP w B v ps) (i:Nat) (hi:i<ps.length):∃ g c,v = .slice (some ⟨g,0,none⟩) ps.length c∧g<B∧P5 w g (i*5) ps[i]:=by
 obtain ⟨A,c,rfl,hc⟩:=h;obtain ⟨g,rfl,hb,hx⟩:=hc (by omega);have a0:=qaT ps i hi 0 (by omega);exact ⟨g,c,rfl,hb,hx _ _ a0,hx _ _ (qaT ps i hi 1 (by omega)),hx _ _ (qaT ps i hi 2 (by omega)),hx _ _ (qaT ps i hi 3 (by omega)),hx _ _ (qaT ps i hi 4 (by omega))⟩
end
def ai (E:TypeId) (ps:List Pr) (w:World) (e:Ending) (w':World):Prop:=
 ∃ v,e = .returned v∧w'.ownsRow w.heap.size E 5 v ps.length (aR ps)∧Below w.heap.size w w'
theorem qhB (w:World) (b i:Nat) (cs:Array Value) (t:TypeId) (v:Value) (h:w.heap[b]? = some (.cells cs t (0,0))):(w.setCell ⟨b,i,none⟩ v).heap[b]? = some (.cells (cs.setIfInBounds i v) t (0,0)):=by
 obtain ⟨hlt,hk⟩:=Array.getElem?_eq_some_iff.1 h;show (w.heap.modify b _)[b]? = _;rw [Array.getElem?_eq_getElem (by rw [Array.size_modify];exact hlt),Array.getElem_modify_self,hk];rfl
def sP (w:World) (b:Nat) (v0 v1 v2 v3 v4:Value):World:=((((w.setCell ⟨b,0,none⟩ v0).setCell ⟨b,1,none⟩ v1).setCell ⟨b,2,none⟩ v2).setCell ⟨b,3,none⟩ v3).setCell ⟨b,4,none⟩ v4
section
variable {w:World} {b t:Nat} {u0 u1 u2 u3 u4:Value}
theorem qph (h:w.heap[b]? = some (.cells #[u0,u1,u2,u3,u4] t (0,0))) (v0 v1 v2 v3 v4:Value):(sP w b v0 v1 v2 v3 v4).heap[b]? = some (.cells #[v0,v1,v2,v3,v4] t (0,0)):=
 qhB _ b 4 _ _ v4 (qhB _ b 3 _ _ v3 (qhB _ b 2 _ _ v2 (qhB _ b 1 _ _ v1 (qhB w b 0 _ _ v0 h))))
theorem qih {B:Nat} {a:World} (h:Below B a w) (hb:B≤b) (v0 v1 v2 v3 v4:Value):Below B a (sP w b v0 v1 v2 v3 v4):=
 ((((h.setCell (p:=⟨b,0,none⟩) hb v0).setCell (p:=⟨b,1,none⟩) hb v1).setCell (p:=⟨b,2,none⟩) hb v2).setCell (p:=⟨b,3,none⟩) hb v3).setCell (p:=⟨b,4,none⟩) hb v4
theorem aU (h:w.heap[b]? = some (.cells #[u0,u1,u2,u3,u4] t (0,0))) :
  (w.cell? ⟨b,0,none⟩=some u0∧w.cell? ⟨b,1,none⟩=some u1∧w.cell? ⟨b,2,none⟩=some u2∧w.cell? ⟨b,3,none⟩=some u3∧w.cell? ⟨b,4,none⟩=some u4)∧
  (w.frozen? ⟨b,0,none⟩=false∧w.frozen? ⟨b,1,none⟩=false∧w.frozen? ⟨b,2,none⟩=false∧w.frozen? ⟨b,3,none⟩=false∧w.frozen? ⟨b,4,none⟩=false):=by
 refine ⟨⟨?_,?_,?_,?_,?_⟩,⟨?_,?_,?_,?_,?_⟩⟩ <;> simp [World.cell?,World.frozen?,h]
end
section
variable {fn:Func} {s b z:Nat} {tmps:Array Value} {w:World} {fr:Nat×Nat} {v0 v1 v2 v3 v4:Value}
end
