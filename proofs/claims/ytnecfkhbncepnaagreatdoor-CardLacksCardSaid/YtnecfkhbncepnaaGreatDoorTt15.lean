/- Merged: WoF SmA. -/
import Derived.Test.YtnecfkhbncepnaaGreatDoorTt11
import Derived.Deep.AppendLies
set_option maxRecDepth 100000
set_option maxHeartbeats 2000000
namespace Go.Proofs.YtnecfkhbncepnaaGreatDoor
namespace Wo
open Go.Proofs Go.RowKit Utf Nu
theorem qjN:(Tryz.prog.info? 9).map (fun i=>(i.zero,i.size,i.bytes))=some (some (.string ⟨#[]⟩),1,16):=by kernel_rfl
def qdq (ps:List (List UInt8)):List Value:=ps.map fun p=> .string (aa p)
theorem qcd (ps:List (List UInt8)):(qdq ps).length=ps.length:=by unfold qdq;simp
theorem qkM (ps:List (List UInt8)) (k:Nat) (h:k<ps.length):(qdq ps)[k]? = some (.string (aa ps[k])):=by
 unfold qdq;rw [List.getElem?_map,List.getElem?_eq_getElem h];rfl
theorem qtf {l:List UInt8} {c:UInt8} (h:∀ j,j<l.length→byt l j≠(c.toNat:Int)):c∉l:=by
 intro hm;obtain ⟨j,hj,e⟩:=List.getElem_of_mem hm;exact h j hj (by rw [qay hj,e])
theorem qs8 (l:List UInt8) (q k:Nat):byt (l.drop q) k=byt l (q+k):=by unfold byt;simp [List.getD_eq_getElem?_getD]
theorem qbx {c:Int} (h0:0≤c) (h1:c≤255):((c.toNat.toUInt8).toNat:Int)=c:=by
 obtain ⟨n,rfl⟩:=Int.eq_ofNat_of_zero_le h0;have:n<256:=by omega
 simp [Nat.mod_eq_of_lt this]
theorem qa9 (c:UInt8):∀ l:List UInt8,(spl c l).length≤l.length+1
 | []=>by simp [spl]
 | x::r=>by
  have h:=qa9 c r;rw [spl];split
  ·simp;omega
  ·cases hr:spl c r with
   | nil=>exact absurd hr (qeR c r)
   | cons p t=>
    rw [hr] at h;simp at h ⊢;omega
theorem qdx {c:UInt8}:∀ {l p:List UInt8},p∈spl c l→p.length≤l.length
 | [],p,h=>by
  simp [spl] at h;subst h;simp
 | x::r,p,h=>by
  rw [spl] at h;by_cases hx:x=c
  ·rw [if_pos hx] at h;rcases List.mem_cons.1 h with rfl | h
   ·simp
   ·have:=qdx h;simp;omega
  ·rw [if_neg hx] at h;cases hr:spl c r with
   | nil=>exact absurd hr (qeR c r)
   | cons q t=>
    rw [hr] at h;rcases List.mem_cons.1 h with rfl | h
    ·have:=qdx (l:=r) (p:=q) (by rw [hr];exact List.mem_cons_self);simp;omega
    ·have:=qdx (l:=r) (p:=p) (by rw [hr];exact List.mem_cons_of_mem _ h);simp;omega
theorem qpv {w:World} {B E n:Nat} {v:Value} {xs:List Value} (h:w.ownsRow B E 1 v n xs) (h0:0<xs.length) :
  ∃ g c,v = .slice (some ⟨g,0,none⟩) xs.length c∧g<w.heap.size∧∀ j u,xs[j]? = some u→w.cell? ⟨g,j,none⟩=some u:=by
 obtain ⟨A,c,rfl,hx⟩:=Rd.of_own h;obtain ⟨ad,rfl,hb,hc⟩:=hx h0;rcases h.2 with ⟨e,_⟩ | ⟨g,cap,cur,e,_⟩
 ·cases e
 ·injection e with e1 e2 e3
  injection e1 with e1
  subst e1;refine ⟨g,c,rfl,hb,fun j u hu=>?_⟩;have:=hc j u hu;have hp:(⟨g,0,none⟩:Addr).add j=⟨g,j,none⟩:=by unfold Addr.add;split <;> simp_all
  rwa [hp] at this
structure SpI (c:UInt8) (l:List UInt8) (k f:Nat) (ps:List (List UInt8)):Prop where
 fk:f≤k
 kl:k≤l.length
 eq:spl c l=ps++spl c (l.drop f)
 no:∀ j,f≤j→j<k→byt l j≠(c.toNat:Int)
section
variable {c:UInt8} {l:List UInt8} {k f:Nat} {ps:List (List UInt8)}
theorem SpI.start:SpI c l 0 0 []:=⟨Nat.le_refl _,Nat.zero_le _,by rw [List.drop_zero];rfl,fun j h1 h2=>by omega⟩
theorem SpI.more (h:SpI c l k f ps) (hk:k<l.length) (hc:byt l k≠(c.toNat:Int)):SpI c l (k+1) f ps:=
 ⟨Nat.le_succ_of_le h.fk,hk,h.eq,fun j h1 h2=>by
  by_cases hjk:j=k
  ·subst hjk;exact hc
  ·exact h.no j h1 (by omega)⟩
theorem SpI.mid (h:SpI c l k f ps):c∉(l.drop f).take (k-f):=qtf fun j hj=>by
 have hj2:j<k-f:=by
  rw [List.length_take] at hj;omega
 have hkl:=h.kl;have hj3:j<(l.drop f).length:=by rw [List.length_drop];omega
 rw [qay hj,List.getElem_take,←qay (l:=l.drop f) hj3,qs8];exact h.no _ (by omega) (by omega)
theorem SpI.cut (h:SpI c l k f ps) (hk:k<l.length) (hc:byt l k=(c.toNat:Int)):SpI c l (k+1) (k+1) (ps++[(l.drop f).take (k-f)]):=by
 refine ⟨Nat.le_refl _,hk,?_,fun j h1 h2=>by omega⟩;have hfk:=h.fk;have e:l.drop f=(l.drop f).take (k-f)++c::l.drop (k+1):=by
  conv=>lhs;rw [←List.take_append_drop (k-f) (l.drop f)]
  rw [List.drop_drop,show f+(k-f)=k by omega,List.drop_eq_getElem_cons hk];rw [qay hk] at hc;rw [show l[k]=c from UInt8.toNat_inj.1 (by omega)]
 rw [h.eq]
 conv=>lhs;rw [e]
 rw [qgV,qaT h.mid,List.append_assoc]
theorem SpI.end_ (h:SpI c l k f ps) (hk:k=l.length):spl c l=ps++[l.drop f]:=by
 rw [h.eq,qaT];have:=h.mid;rwa [List.take_of_length_le (by rw [List.length_drop];omega)] at this
theorem SpI.room (h:SpI c l k f ps):ps.length+1≤(spl c l).length:=by
 rw [h.eq,List.length_append];have:=List.length_pos_iff.2 (qeR c (l.drop f));omega
end
def qqb (ps:List (List UInt8)) (w:World) (e:Ending) (w':World):Prop:=
 ∃ v,e = .returned v∧w'.ownsRow w.heap.size 9 1 v ps.length (qdq ps)∧Below w.heap.size w w'
theorem qqN (s:ByteArray) (f k:Nat):s.extract f k=aa ((s.data.toList.drop f).take (k-f)):=by
 apply ByteArray.ext;rw [ByteArray.data_extract];apply Array.toList_inj.1;simp [aa,Array.toList_extract,List.extract]
theorem qfV (s:ByteArray) (c:UInt8) (w:World) (hs:s.size≤9223372036854775807) (hn:(spl c s.data.toList).length≤4398046511104) :
  Calls Tryz.prog 48 #[.string s,.int .u8 (c.toNat:Int)] w (qqb (spl c s.data.toList) w):=by
 obtain ⟨i1,hj,hy0,hy1,hy2⟩:=info_parts qjN;have HLEN:=zh (ac s);have HN:=zh hn;clear hn;go_enter Tryz.func48,Tryz.ntmps48;go_wp2_with fail;go_loopw [5,6,7] (fun v fv i wr=>∃ (k f:Nat) (ps:List (List UInt8)),i = .int .i64 (k:Int)∧fv = .int .i64 (f:Int)∧k≤s.size∧f≤k∧ps.length+1≤4398046511104∧Aside (SpI c s.data.toList k f ps)∧Aside (wr.ownsRow w.heap.size 9 1 v ps.length (qdq ps))∧Aside (Below w.heap.size w wr)) (fun _ _ i _=>s.size-(intOf i).toNat)
 case atStart=>exact ⟨0,0,[],rfl,rfl,by omega,by omega,by simp,(show SpI _ _ _ _ _ from SpI.start),(show World.ownsRow _ _ _ _ _ _ _ from World.ownsRow_nil _ _ _ _),(show Below _ _ _ from Below.refl _ _)⟩
 case round=>
  obtain ⟨k,f,ps,rfl,rfl,hk,hfk,hps,hsp,hrow,hbel⟩:=hrel;have HSP:=zh hsp.out;have hown:=hrow.out;have HB:=zh hbel.out;have HBS:=zh hbel.out.size;clear hsp hrow hbel;by_cases hlt:k<s.size
  ·have t1:decide ((k:Int)<(s.size:Int))=true:=zT (by omega);have t2:decide (k<s.size)=true:=zT hlt;have k0:(0:Int)≤(k:Int):=by omega
   have k1:(k:Int)<(s.size:Int):=by omega
   have k2:((k:Int)).toNat=k:=by omega
   have HG:=zh (aY s k hlt);by_cases hc:(s[k].toNat:Int)=(c.toNat:Int)
   ·have u1:((s[k].toNat:Int)==(c.toNat:Int))=true:=by rw [hc];exact beq_self_eq_true _
    have HSP2:=zh (HSP.out.cut (by rw [HLEN.out];exact hlt) (by rw [HG.out];exact hc));have HROOM:=zh HSP2.out.room;have HX:=zh (qqN s f k);generalize (s.data.toList.drop f).take (k-f)=q at *;have f0:(0:Int)≤(f:Int):=by omega
    have f1:(f:Int)≤(k:Int):=by omega
    have f2:((f:Int)).toNat=f:=by omega
    have f3:(k:Int)≤(s.size:Int):=by omega
    clear hc;go_wp2_with (at_builtin;refine wpList_append_lies _ rfl _ _ 28 rfl w.heap.size 9 i1 _ 1 16 Tryz.underlying28 hj hy0 hy1 hy2 (by rfl) (by decide) u5 ps.length (qdq ps) rfl (hown.alloc _) ⟨wr.heap.size,0,none⟩ 1 1 [.string (s.extract f k)] rfl rfl (bk _ _ _) ?_ ?_ ?_ ?_ ?_ _ rfl ?_;(intro u hu;simp at hu;subst hu;rfl);omega;(unfold maxLen;omega);omega;(have:=HBS.out;simp;omega);intro g cap w2 hown2 hg2 hat hgl)
    have HO2:=zh (show w2.ownsRow w.heap.size 9 1 (.slice (some ⟨g,0,none⟩) (ps.length+1) cap) (ps++[q]).length (qdq (ps++[q])) by
     rw [HX.out] at hown2;rw [List.length_append,qdq,List.map_append];exact hown2)
    have HB2:=zh (show Below w.heap.size w w2 from (HB.out.alloc HBS.out _).grown hg2 (by have:=HBS.out;simp;omega) (fun k hk=>(hown.lt k hk).1));clear hown hown2 hg2 hat;go_wp2_with fail;go_roundw
    case rel=>exact ⟨k+1,k+1,ps++[q],by go_num,by go_num,by omega,by omega,by have h1:=HROOM.out;have h2:=HN.out;omega,HSP2.out,HO2.out,HB2.out⟩
    case measure=>simp [intOf];omega
   ·have u1:((s[k].toNat:Int)==(c.toNat:Int))=false:=beq_eq_false_iff_ne.2 hc;have HSP2:=zh (HSP.out.more (by rw [HLEN.out];exact hlt) (by rw [HG.out];exact hc));have HO2:=zh hown;clear hc hown;go_wp2_with fail;go_roundw
    case rel=>exact ⟨k+1,f,ps,by go_num,rfl,by omega,by omega,hps,HSP2.out,HO2.out,HB.out⟩
    case measure=>simp [intOf];omega
  ·have t1:decide ((k:Int)<(s.size:Int))=false:=zF (by omega);have t2:decide (k<s.size)=false:=zF hlt;have HE:=zh (HSP.out.end_ (by rw [HLEN.out];omega));have HX:=zh (qhY s f);generalize s.data.toList.drop f=q at *;have f0:(0:Int)≤(f:Int):=by omega
   have f1:(f:Int)≤(s.size:Int):=by omega
   have f2:((f:Int)).toNat=f:=by omega
   go_wp2_with (at_builtin;refine wpList_append_lies _ rfl _ _ 28 rfl w.heap.size 9 i1 _ 1 16 Tryz.underlying28 hj hy0 hy1 hy2 (by rfl) (by decide) u5 ps.length (qdq ps) rfl (hown.alloc _) ⟨wr.heap.size,0,none⟩ 1 1 [.string (s.extract f s.size)] rfl rfl (bk _ _ _) ?_ ?_ ?_ ?_ ?_ _ rfl ?_;(intro u hu;simp at hu;subst hu;rfl);omega;(unfold maxLen;omega);omega;(have:=HBS.out;simp;omega);intro g cap w2 hown2 hg2 hat hgl)
   have HO2:=zh (show w2.ownsRow w.heap.size 9 1 (.slice (some ⟨g,0,none⟩) (ps.length+1) cap) (spl c s.data.toList).length (qdq (spl c s.data.toList)) by
    rw [HX.out] at hown2;rw [HE.out,List.length_append,qdq,List.map_append];exact hown2)
   have HB2:=zh (show Below w.heap.size w w2 from (HB.out.alloc HBS.out _).grown hg2 (by have:=HBS.out;simp;omega) (fun k hk=>(hown.lt k hk).1));clear hown hown2 hg2 hat;go_wp2_with fail;go_ret;exact ⟨_,rfl,HO2.out,HB2.out⟩
end Wo
namespace Sm
open Go.Proofs Go.RowKit Utf Nu Wo
def prC (p:Pr):List Value:=[.string (aa p.nm),.int .i64 p.fm,.string (aa p.ar),.bool p.mu,.string (aa p.df)]
def prV (p:Pr):Value:= .agg #[.string (aa p.nm),.int .i64 p.fm,.string (aa p.ar),.bool p.mu,.string (aa p.df)]
def aR (ps:List Pr):List Value:=(ps.map prC).flatten
theorem eZ (a b:List Pr):aR (a++b)=aR a++aR b:=by simp [aR]
theorem qeS (t:Pr):aR [t]=prC t:=by simp [aR]
theorem cu (ts:List Pr):(aR ts).length=ts.length*5:=by
 induction ts with
 | nil=>rfl
 | cons a r ih=>rw [show a::r=[a]++r from rfl,eZ,List.length_append,ih,qeS,prC];simp;omega
theorem qbd (ts:List Pr):∀ (i:Nat) (h:i<ts.length) (j:Nat),j<5→(aR ts)[i*5+j]? = (prC ts[i])[j]?:=by
 induction ts with
 | nil=>intro i h;simp at h
 | cons a r ih=>
  intro i h j hj;have e:aR (a::r)=prC a++aR r:=by rw [show a::r=[a]++r from rfl,eZ,qeS]
  rw [e];cases i with
  | zero=>
   rw [List.getElem?_append_left (by show 0*5+j<5;omega),Nat.zero_mul,Nat.zero_add];rfl
  | succ k=>
   rw [List.getElem?_append_right (by show 5≤_;omega),show (k+1)*5+j-(prC a).length=k*5+j by show (k+1)*5+j-5=_;omega];exact ih k (by simpa using h) j hj
def RdP (w:World) (B:Nat) (v:Value) (ps:List Pr):Prop:=
 ∃ A c,v = .slice A ps.length c∧(0<ps.length→∃ g,A=some ⟨g,0,none⟩∧g<B∧∀ j u,(aR ps)[j]? = some u→w.cell? ⟨g,j,none⟩=some u)
section
variable {w w':World} {B B':Nat} {v:Value} {ps:List Pr}
theorem RdP.keep (h:RdP w B v ps) (hk:∀ p:Addr,p.block<B→w'.cell? p=w.cell? p):RdP w' B v ps:=by
 obtain ⟨A,c,rfl,hc⟩:=h;refine ⟨A,c,rfl,fun h0=>?_⟩;obtain ⟨g,rfl,hb,hx⟩:=hc h0;exact ⟨g,rfl,hb,fun j u hu=>(hk ⟨g,j,none⟩ hb).trans (hx j u hu)⟩
theorem RdP.below (h:RdP w B v ps) (hb:Below B' w w') (hB:B≤B'):RdP w' B v ps:=h.keep fun _ hp=>hb.cell (by omega)
theorem RdP.more (h:RdP w B v ps) (hB:B≤B'):RdP w B' v ps:=by
 obtain ⟨A,c,rfl,hc⟩:=h;refine ⟨A,c,rfl,fun h0=>?_⟩;obtain ⟨g,rfl,hb,hx⟩:=hc h0;exact ⟨g,rfl,by omega,hx⟩
theorem RdP.of_own {base E:Nat} (h:w.ownsRow base E 5 v ps.length (aR ps)):RdP w w.heap.size v ps:=by
 have hlt:=h.lt;have hcell:= @World.ownsRow.cells w base E 5 v ps.length (aR ps) h;rcases h.2 with ⟨rfl,h0⟩ | ⟨g,cap,cur,rfl,_,_,_⟩
 ·exact ⟨none,0,by rw [h0],fun h=>by omega⟩
 ·refine ⟨some ⟨g,0,none⟩,cap,rfl,fun _=>⟨g,rfl,(hlt g rfl).2,fun j u hu=>?_⟩⟩;have:=hcell rfl j u hu;rwa [show (⟨g,0,none⟩:Addr).add j=⟨g,j,none⟩ by unfold Addr.add;split <;> simp_all] at this
def P5 (w:World) (g o:Nat) (p:Pr):Prop:=
 w.cell? ⟨g,o,none⟩=some (.string (aa p.nm))∧w.cell? ⟨g,o+1,none⟩=some (.int .i64 p.fm)∧w.cell? ⟨g,o+2,none⟩=some (.string (aa p.ar))∧w.cell? ⟨g,o+3,none⟩=some (.bool p.mu)∧w.cell? ⟨g,o+4,none⟩=some (.string (aa p.df))
theorem RdP.at_ (h:RdP w B v ps) (i:Nat) (hi:i<ps.length):∃ g c,v = .slice (some ⟨g,0,none⟩) ps.length c∧g<B∧P5 w g (i*5) ps[i]:=by
 obtain ⟨A,c,rfl,hc⟩:=h;obtain ⟨g,rfl,hb,hx⟩:=hc (by omega);have a0:=qbd ps i hi 0 (by omega);exact ⟨g,c,rfl,hb,hx _ _ a0,hx _ _ (qbd ps i hi 1 (by omega)),hx _ _ (qbd ps i hi 2 (by omega)),hx _ _ (qbd ps i hi 3 (by omega)),hx _ _ (qbd ps i hi 4 (by omega))⟩
end
def al (E:TypeId) (ps:List Pr) (w:World) (e:Ending) (w':World):Prop:=
 ∃ v,e = .returned v∧w'.ownsRow w.heap.size E 5 v ps.length (aR ps)∧Below w.heap.size w w'
theorem qt4 (X Y:ByteArray) (h:X.size+Y.size≤9223372036854775807) (w:World):(Op.stringOp .add X Y).run Tryz.prog w = .ok (.string (aa (X.data.toList++Y.data.toList))) w:=by
 have e1:X=aa X.data.toList:=rfl;have e2:Y=aa Y.data.toList:=rfl;rw [run_string_add_sum w _ _ h]
 conv=>lhs;rw [e1,e2]
 unfold aa;rw [ByteArray.mk_append_mk]
theorem qby (w:World) (b i:Nat) (cs:Array Value) (t:TypeId) (v:Value) (h:w.heap[b]? = some (.cells cs t (0,0))):(w.setCell ⟨b,i,none⟩ v).heap[b]? = some (.cells (cs.setIfInBounds i v) t (0,0)):=by
 obtain ⟨hlt,hk⟩:=Array.getElem?_eq_some_iff.1 h;show (w.heap.modify b _)[b]? = _;rw [Array.getElem?_eq_getElem (by rw [Array.size_modify];exact hlt),Array.getElem_modify_self,hk];rfl
def sP (w:World) (b:Nat) (v0 v1 v2 v3 v4:Value):World:=((((w.setCell ⟨b,0,none⟩ v0).setCell ⟨b,1,none⟩ v1).setCell ⟨b,2,none⟩ v2).setCell ⟨b,3,none⟩ v3).setCell ⟨b,4,none⟩ v4
section
variable {w:World} {b t:Nat} {u0 u1 u2 u3 u4:Value}
theorem qc0 (h:w.heap[b]? = some (.cells #[u0,u1,u2,u3,u4] t (0,0))) (v0 v1 v2 v3 v4:Value):(sP w b v0 v1 v2 v3 v4).heap[b]? = some (.cells #[v0,v1,v2,v3,v4] t (0,0)):=
 qby _ b 4 _ _ v4 (qby _ b 3 _ _ v3 (qby _ b 2 _ _ v2 (qby _ b 1 _ _ v1 (qby w b 0 _ _ v0 h))))
theorem ft {B:Nat} {a:World} (h:Below B a w) (hb:B≤b) (v0 v1 v2 v3 v4:Value):Below B a (sP w b v0 v1 v2 v3 v4):=
 ((((h.setCell (p:=⟨b,0,none⟩) hb v0).setCell (p:=⟨b,1,none⟩) hb v1).setCell (p:=⟨b,2,none⟩) hb v2).setCell (p:=⟨b,3,none⟩) hb v3).setCell (p:=⟨b,4,none⟩) hb v4
theorem aO (h:w.heap[b]? = some (.cells #[u0,u1,u2,u3,u4] t (0,0))) :
  (w.cell? ⟨b,0,none⟩=some u0∧w.cell? ⟨b,1,none⟩=some u1∧w.cell? ⟨b,2,none⟩=some u2∧w.cell? ⟨b,3,none⟩=some u3∧w.cell? ⟨b,4,none⟩=some u4)∧
  (w.frozen? ⟨b,0,none⟩=false∧w.frozen? ⟨b,1,none⟩=false∧w.frozen? ⟨b,2,none⟩=false∧w.frozen? ⟨b,3,none⟩=false∧w.frozen? ⟨b,4,none⟩=false):=by
 refine ⟨⟨?_,?_,?_,?_,?_⟩,⟨?_,?_,?_,?_,?_⟩⟩ <;> simp [World.cell?,World.frozen?,h]
end
section
variable {fn:Func} {s b z:Nat} {tmps:Array Value} {w:World} {fr:Nat×Nat} {v0 v1 v2 v3 v4:Value}
theorem quT (hf:fn.results = #[.cell s 31]) (ht:tmps.getD s undef = .pointer (some ⟨b,0,none⟩))
  (h:w.heap[b]? = some (.cells #[v0,v1,v2,v3,v4] 31 fr)):(results fn tmps).run Tryz.prog w = .ok (.agg #[v0,v1,v2,v3,v4]) w:=by
 have c0:w.cell? ⟨b,0,none⟩=some v0:=by simp [World.cell?,h]
 have c1:w.cell? ⟨b,1,none⟩=some v1:=by simp [World.cell?,h]
 have c2:w.cell? ⟨b,2,none⟩=some v2:=by simp [World.cell?,h]
 have c3:w.cell? ⟨b,3,none⟩=some v3:=by simp [World.cell?,h]
 have c4:w.cell? ⟨b,4,none⟩=some v4:=by simp [World.cell?,h]
 rw [Array.getD_eq_getD_getElem?] at ht;simp [results,hf,ht,c0,c1,c2,c3,c4,go_sem]
theorem qrt {x:Value} (hf:fn.results = #[.cell s 31,.tmp z]) (ht:tmps.getD s undef = .pointer (some ⟨b,0,none⟩)) (hx:tmps.getD z undef=x)
  (h:w.heap[b]? = some (.cells #[v0,v1,v2,v3,v4] 31 fr)):(results fn tmps).run Tryz.prog w = .ok (.tuple #[.agg #[v0,v1,v2,v3,v4],x]) w:=by
 have c0:w.cell? ⟨b,0,none⟩=some v0:=by simp [World.cell?,h]
 have c1:w.cell? ⟨b,1,none⟩=some v1:=by simp [World.cell?,h]
 have c2:w.cell? ⟨b,2,none⟩=some v2:=by simp [World.cell?,h]
 have c3:w.cell? ⟨b,3,none⟩=some v3:=by simp [World.cell?,h]
 have c4:w.cell? ⟨b,4,none⟩=some v4:=by simp [World.cell?,h]
 rw [Array.getD_eq_getD_getElem?] at ht hx;simp [results,hf,ht,hx,c0,c1,c2,c3,c4,go_sem]
end
