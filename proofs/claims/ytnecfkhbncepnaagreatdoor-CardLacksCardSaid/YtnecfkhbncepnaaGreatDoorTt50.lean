/- Merged: TsA TsB PoH CdF CdAw0 PoAw PoW6. -/
import Derived.Deep.DeepCutAuto
import Derived.Deep.RegionWith
import Derived.Laws.Concat
import Derived.Test.YtnecfkhbncepnaaGreatDoorTt47
import Derived.Test.YtnecfkhbncepnaaGreatDoorTt32
import Derived.Test.YtnecfkhbncepnaaGreatDoorTt43
set_option maxRecDepth 100000
set_option maxHeartbeats 1000000
namespace Go.Proofs.YtnecfkhbncepnaaGreatDoor
namespace Tr
open Go.Proofs Go.RowKit Go.Lib Utf Sc Re
open Em (qak dm cA cI qkK qkk)
mutual
theorem qcy:∀ v:V,qak v→oV v
 | .mk k n s l ns ms,h=>by
  rw [qak] at h;rw [oV];exact ⟨fun hk=>qkK h.1 hk,fun hk=>qkk h.1 hk,qcH l h.2.1,qcH ms h.2.2⟩
theorem qcH:∀ l:List V,dm l→oL l
 | [],_=>by rw [oL];trivial
 | v::r,h=>by
  rw [dm] at h;rw [oL];exact ⟨qcy v h.1,qcH r h.2⟩
end
theorem qlJ {l r:List V} (h:l.Perm r) (ho:cI l):cI r:=by
 induction h with
 | nil=>exact ho
 | cons x _ ih=>rw [cI] at ho ⊢;exact ⟨ho.1,ih ho.2⟩
 | swap x y l=>rw [cI,cI] at ho ⊢;exact ⟨ho.2.1,ho.1,ho.2.2⟩
 | trans _ _ h1 h2=>exact h2 (h1 ho)
theorem qat {v:V} {P:List (List UInt8×V)} (hl:v.ns.length=v.ms.length) (p:P.Perm (v.ns.zip v.ms)):(P.map Prod.snd).Perm v.ms:=by
 have:=p.map Prod.snd;rwa [List.map_snd_zip (by omega)] at this
theorem qch (v:V):cA v↔v.ns.length=v.ms.length∧cI v.l∧cI v.ms:=by cases v;rw [cA];rfl
theorem qkC (v:V):1≤cnt v:=by rw [qeX];omega
end Tr
namespace Tr
open Go.Proofs Go.RowKit Go.Lib Utf Sc Re
open Em (qak dm cA cI own qap szU cC wfV wfL chk qaF qaY okW)
theorem qnx {l r:List V} (h:l.Perm r) (d:Nat):dpL l d=dpL r d:=by
 induction h with
 | nil=>rfl
 | cons x _ ih=>rw [dpL,dpL,ih]
 | swap x y l=>rw [dpL,dpL,dpL,dpL];omega
 | trans _ _ h1 h2=>exact h1.trans h2
theorem qmH {l r:List V} (h:l.Perm r):cC l=cC r:=by
 induction h with
 | nil=>rfl
 | cons x _ ih=>rw [cC,cC,ih]
 | swap x y l=>rw [cC,cC,cC,cC];omega
 | trans _ _ h1 h2=>exact h1.trans h2
theorem qlr {l r:List V} (h:l.Perm r) (ho:dm l):dm r:=by
 induction h with
 | nil=>exact ho
 | cons x _ ih=>rw [dm] at ho ⊢;exact ⟨ho.1,ih ho.2⟩
 | swap x y l=>rw [dm,dm] at ho ⊢;exact ⟨ho.2.1,ho.1,ho.2.2⟩
 | trans _ _ h1 h2=>exact h2 (h1 ho)
theorem qoA {l r:List V} (h:l.Perm r) (ho:wfL l):wfL r:=by
 induction h with
 | nil=>exact ho
 | cons x _ ih=>rw [wfL] at ho ⊢;exact ⟨ho.1,ih ho.2⟩
 | swap x y l=>rw [wfL,wfL] at ho ⊢;exact ⟨ho.2.1,ho.1,ho.2.2⟩
 | trans _ _ h1 h2=>exact h2 (h1 ho)
theorem qdI {v:V} {P:List (List UInt8×V)} (hl:v.ns.length=v.ms.length) (p:P.Perm (v.ns.zip v.ms)):(P.map Prod.fst).Perm v.ns:=by
 have:=p.map Prod.fst;rwa [List.map_fst_zip (by omega)] at this
theorem qnN {l r:List Nat} (h:l.Perm r):l.sum=r.sum:=by
 induction h with
 | nil=>rfl
 | cons x _ ih=>simp [ih]
 | swap x y l=>simp;omega
 | trans _ _ h1 h2=>exact h1.trans h2
theorem qqH (v:V):qak v↔own v.k v.n v.s v.l.length v.ns v.ms.length∧dm v.l∧dm v.ms:=by cases v;rw [qak];rfl
theorem qsy (v:V):wfV v↔(Lit.int .i64 v.k).wf=true∧(Lit.int .i64 v.n).wf=true∧wfL v.l∧wfL v.ms:=by cases v;rw [wfV];rfl
theorem qsP (v:V):szU v=1+v.s.length+cC v.l+(v.ns.map fun x=>1+x.length).sum+cC v.ms:=by cases v;rw [szU];rfl
theorem qn5 {k n:Int} {s:List UInt8} {a b:Nat} {ns nt:List (List UInt8)} (h:ns.Perm nt) (ho:own k n s a ns b):own k n s a nt b:=by
 obtain ⟨h1,h2,h3,h4,h5⟩:=ho;refine ⟨h1,h2,h3,h4,fun hk hl=>?_⟩;obtain ⟨q1,q2⟩:=h5 hk (by rw [h.length_eq];exact hl);exact ⟨fun x hx=>q1 x (h.symm.subset hx),h.nodup_iff.1 q2⟩
mutual
theorem qhy:∀ (a v:V),Srt a v→cA v→(∀ d,dp a d=dp v d)∧(qak v→qak a)∧szU a=szU v∧(wfV v→wfV a)∧cA a
 | .mk k n s l ns ms,v,h,hl=>by
  rw [Srt] at h;obtain ⟨h1,h2,h3,h4,h5, -,P,p1,p2,p3⟩:=h;have hv:=(qch v).1 hl;have hp:=qat hv.1 p1;have hf:=qdI hv.1 p1;rw [p2] at hf;obtain ⟨k1,k2,k3,k4,k5⟩:=qcJ l v.l h4 hv.2.1;obtain ⟨m1,m2,m3,m4,m5⟩:=qcJ ms _ p3 (qlJ hp.symm hv.2.2);have e1:=((bH _ _).1 h4).1;have e2:=((bH _ _).1 p3).1;rw [hp.length_eq] at e2;refine ⟨fun d=>?_,fun ho=>?_,?_,fun ho=>?_,?_⟩
  ·cases v;rw [dp,dp,k1,m1,qnx hp];rfl
  ·obtain ⟨o1,o2,o3⟩:=(qqH v).1 ho;rw [qak];refine ⟨?_,k2 o2,m2 (qlr hp.symm o3)⟩;rw [h1,h2,h3,e1,e2];exact qn5 hf.symm o1
  ·rw [szU,qsP v,k3,m3,qmH hp,h3,qnN (hf.map fun x=>1+x.length)]
  ·obtain ⟨o1,o2,o3,o4⟩:=(qsy v).1 ho;rw [wfV];exact ⟨by rw [h1];exact o1,by rw [h2];exact o2,k4 o3,m4 (qoA hp.symm o4)⟩
  ·rw [cA];exact ⟨h5,k5,m5⟩
theorem qcJ:∀ (l r:List V),dQ l r→cI r→(∀ d,dpL l d=dpL r d)∧(dm r→dm l)∧cC l=cC r∧(wfL r→wfL l)∧cI l
 | [],r,h,hl=>by
  rw [dQ] at h;subst h;exact ⟨fun _=>rfl,fun h=>h,rfl,fun h=>h,hl⟩
 | x::t,r,h,hl=>by
  rw [dQ] at h;obtain ⟨y,u,rfl,h1,h2⟩:=h;rw [cI] at hl;obtain ⟨k1,k2,k3,k4,k5⟩:=qhy x y h1 hl.1;obtain ⟨m1,m2,m3,m4,m5⟩:=qcJ t u h2 hl.2;refine ⟨fun d=>by rw [dpL,dpL,k1,m1],fun ho=>?_,by rw [cC,cC,k3,m3],fun ho=>?_,by rw [cI];exact ⟨k5,m5⟩⟩
  ·rw [dm] at ho ⊢;exact ⟨k2 ho.1,m2 ho.2⟩
  ·rw [wfL] at ho ⊢;exact ⟨k4 ho.1,m4 ho.2⟩
end
mutual
/-- no map has a name twice -/
def ndV:V→Prop
 | .mk _ _ _ l ns ms=>ns.Nodup∧ndL l∧ndL ms
def ndL:List V→Prop
 | []=>True
 | v::r=>ndV v∧ndL r
end
theorem qjC (v:V):ndV v↔v.ns.Nodup∧ndL v.l∧ndL v.ms:=by cases v;rw [ndV];rfl
theorem qaf {v:V}:∀ {l:List V},ndL l→v∈l→ndV v
 | [],_,h=>by cases h
 | a::r,h,hv=>by
  rw [ndL] at h;rcases List.mem_cons.1 hv with rfl | hv
  ·exact h.1
  ·exact qaf h.2 hv
mutual
theorem qrv:∀ v:V,qak v→cA v→Em.qeT v→ndV v
 | .mk k n s l ns ms,h,hl,hs=>by
  rw [qak] at h;rw [cA] at hl;rw [Em.qeT] at hs;rw [ndV];refine ⟨?_,qiW l h.2.1 hl.2.1 hs.2.1,qiW ms h.2.2 hl.2.2 hs.2.2⟩;by_cases hk:k=6
  ·exact (h.1.2.2.2.2 hk hs.1).2
  ·have:=h.1.1.2.2.2.2 hk;have e:ns=[]:=List.eq_nil_of_length_eq_zero (by omega);rw [e];exact List.nodup_nil
theorem qiW:∀ l:List V,dm l→cI l→Em.eK l→ndL l
 | [],_,_,_=>by rw [ndL];trivial
 | v::r,h,hl,hs=>by
  rw [dm] at h;rw [cI] at hl;rw [Em.eK] at hs;rw [ndL];exact ⟨qrv v h.1 hl.1 hs.1,qiW r h.2 hl.2 hs.2⟩
end
theorem qdg {ns:List (List UInt8)} (h:ns.Nodup) {i:Nat} (hi:i<ns.length):ns.idxOf ns[i]=i:=by
 refine qfR hi (fun j hj hji e=>?_) rfl;have:=(List.nodup_iff_pairwise_ne.1 h)
 have:=List.pairwise_iff_getElem.1 this j i hj hi hji;exact this e
theorem cH {v:V}:∀ {l:List V},cI l→v∈l→cA v
 | [],_,h=>by cases h
 | a::r,h,hv=>by
  rw [cI] at h;rcases List.mem_cons.1 hv with rfl | hv
  ·exact h.1
  ·exact cH h.2 hv
theorem qgl:∀ (h:Nat) (a v u:V),ht a≤h→Srt a v→Srt a u→cA v→cA u→oV v→ndV u→qhG v u
 | 0,a,_,_,hh,_,_,_,_,_,_=>by rw [dN] at hh;omega
 | h+1,a,v,u,hh,hv,hu,lv,lu,ov,nu=>by
  obtain ⟨a1,a2,a3,a4,a5, -,P,p1,p2,p3⟩:=(qbE a v).1 hv;obtain ⟨b1,b2,b3,b4, -, -,Q,q1,q2,q3⟩:=(qbE a u).1 hu;obtain ⟨lv1,lv2,lv3⟩:=(qch v).1 lv;obtain ⟨lu1,lu2,lu3⟩:=(qch u).1 lu;obtain ⟨ov1,ov2,ov3,ov4⟩:=(qk3 v).1 ov;obtain ⟨nu1,nu2,nu3⟩:=(qjC u).1 nu;have hht:=dN a;obtain ⟨s1,s2⟩:=(bH _ _).1 a4;obtain ⟨t1,t2⟩:=(bH _ _).1 b4;obtain ⟨m1,m2⟩:=(bH _ _).1 p3;obtain ⟨n1,n2⟩:=(bH _ _).1 q3;have hk:v.k=u.k:=a1.symm.trans b1;have hPl:=(qat lv1 p1).length_eq;have hQl:=(qat lu1 q1).length_eq;rw [qkh];refine ⟨hk,a2.symm.trans b2,a3.symm.trans b3,?_,?_,?_⟩
  ·rw [fd];unfold inL;rw [←hk];by_cases hk5:v.k=5
   ·simp only [if_pos hk5];refine ⟨s1.symm.trans t1,fun i h1 h2=>?_⟩;have hi:i<a.l.length:=by omega
    have hm:=bu (List.getElem_mem hi);exact qgl h a.l[i] v.l[i] u.l[i] (by omega) (s2 i hi h1) (t2 i hi h2) (cH lv2 (List.getElem_mem h1)) (cH lu2 (List.getElem_mem h2)) (qai ov3 (List.getElem_mem h1)) (qaf nu2 (List.getElem_mem h2))
   ·simp only [if_neg hk5];exact ⟨trivial,fun i h=>by simp at h⟩
  ·unfold inM;rw [←hk];by_cases hk6:v.k=6
   ·simp only [if_pos hk6];omega
   ·simp only [if_neg hk6]
  ·rw [qcV _ _ _ _ (by unfold inN inM;split <;> simp [lv1])];unfold inM inN;rw [←hk];by_cases hk6:v.k=6
   ·simp only [if_pos hk6];intro i h1 h2;have hzv:i<(v.ns.zip v.ms).length:=by rw [List.length_zip];omega
    have hmem:(v.ns.zip v.ms)[i]∈P:=p1.symm.subset (List.getElem_mem hzv);rw [List.getElem_zip] at hmem;obtain ⟨j,hj,ej⟩:=List.getElem_of_mem hmem;have hja:j<a.ms.length:=by rw [m1,List.length_map];exact hj
    have hjq:j<Q.length:=by rw [n1,List.length_map] at hja;exact hja
    have hjn:j<a.ns.length:=by omega
    have x1:a.ns[j]=v.ns[i]:=by
     have:a.ns[j]=(P.map Prod.fst)[j]'(by simpa using hj):=by simp only [p2]
     rw [this,List.getElem_map,ej]
    have x2:a.ns[j]=Q[j].1:=by
     have:a.ns[j]=(Q.map Prod.fst)[j]'(by simpa using hjq):=by simp only [q2]
     rw [this,List.getElem_map]
    have y1:Srt a.ms[j] v.ms[i]:=by
     have:=m2 j hja (by simpa using hj);rwa [List.getElem_map,ej] at this
    have y2:Srt a.ms[j] Q[j].2:=by
     have:=n2 j hja (by simpa using hjq);rwa [List.getElem_map] at this
    have hqm:Q[j]∈u.ns.zip u.ms:=q1.subset (List.getElem_mem hjq);obtain ⟨t,ht',et⟩:=List.getElem_of_mem hqm;rw [List.length_zip] at ht';rw [List.getElem_zip] at et;have htn:t<u.ns.length:=by omega
    have htm:t<u.ms.length:=by omega
    have e1:u.ns[t]=v.ns[i]:=by rw [←x1,x2,←et]
    have e2:Q[j].2=u.ms[t]:=by rw [←et]
    refine ⟨by rw [←e1];exact List.getElem_mem htn,u.ms[t],?_,?_⟩
    ·rw [←e1,qdg nu1 htn,List.getElem?_eq_getElem htm]
    ·rw [e2] at y2;have hm:=bu (List.getElem_mem hja);exact qgl h a.ms[j] v.ms[i] u.ms[t] (by omega) y1 y2 (cH lv3 (List.getElem_mem h1)) (cH lu3 (List.getElem_mem htm)) (qai ov4 (List.getElem_mem h1)) (qaf nu3 (List.getElem_mem htm))
   ·simp only [if_neg hk6];intro i h1;simp at h1
theorem qbt:∀ (l r:List (List UInt8)),l.Nodup→(∀ x∈l,x∈r)→l.length=r.length→l.Perm r
 | [],r,_,_,hl=>by rw [List.eq_nil_of_length_eq_zero hl.symm]
 | x::t,r,hn,hs,hl=>by
  have hx:=hs x (by simp);have hp:=List.perm_cons_erase hx;rw [List.nodup_cons] at hn;have:=qbt t (r.erase x) hn.2 (fun y hy=>by
   have hne:y≠x:=fun e=>hn.1 (e▸hy);exact (List.mem_erase_of_ne hne).2 (hs y (by simp [hy]))) (by have:=hp.length_eq;simp at this hl;omega)
  exact (this.cons x).trans hp.symm
theorem qcY:∀ (l r:List (List UInt8)),l.Perm r→l.Pairwise (fun a b=>ltN b a=false)→r.Pairwise (fun a b=>ltN b a=false)→l=r
 | [],r,hp,_,_=>by rw [List.nil_perm.1 hp]
 | x::t,r,hp,h1,h2=>by
  cases r with
  | nil=>exact absurd hp.length_eq (by simp)
  | cons y u=>
   rw [List.pairwise_cons] at h1 h2;have e:x=y:=by
    rcases List.mem_cons.1 (hp.subset (show x∈x::t by simp)) with h | h
    ·exact h
    ·rcases List.mem_cons.1 (hp.symm.subset (show y∈y::u by simp)) with k | k
     ·exact k.symm
     ·exact (qm7 (h2.1 x h) (h1.1 y k)).symm▸rfl
   subst e;rw [qcY t u (List.perm_cons x |>.1 hp) h1.2 h2.2]
theorem qu7:∀ {a b:V},a.k=b.k→a.n=b.n→a.s=b.s→a.l=b.l→a.ns=b.ns→a.ms=b.ms→a=b
 | .mk ..,.mk ..,rfl,rfl,rfl,rfl,rfl,rfl=>rfl
theorem qmY:∀ (h:Nat) (a b v u:V),ht a≤h→Srt a v→Srt b u→qhG v u→cA v→cA u→oV v→oV u→ndV v→ndV u→a=b
 | 0,a,_,_,_,hh,_,_,_,_,_,_,_,_,_=>by rw [dN] at hh;omega
 | h+1,a,b,v,u,hh,hv,hu,hs,lv,lu,ov,ou,nv,nu=>by
  obtain ⟨a1,a2,a3,a4,a5,a6,P,p1,p2,p3⟩:=(qbE a v).1 hv;obtain ⟨b1,b2,b3,b4,b5,b6,Q,q1,q2,q3⟩:=(qbE b u).1 hu;obtain ⟨lv1,lv2,lv3⟩:=(qch v).1 lv;obtain ⟨lu1,lu2,lu3⟩:=(qch u).1 lu;obtain ⟨ov1,ov2,ov3,ov4⟩:=(qk3 v).1 ov;obtain ⟨ou1,ou2,ou3,ou4⟩:=(qk3 u).1 ou;obtain ⟨nu1,nu2,nu3⟩:=(qjC u).1 nu;obtain ⟨nv1,nv2,nv3⟩:=(qjC v).1 nv;obtain ⟨h1,h2,h3,h4,h5,h6⟩:=(qkh v u).1 hs;have hht:=dN a;obtain ⟨s1,s2⟩:=(bH _ _).1 a4;obtain ⟨t1,t2⟩:=(bH _ _).1 b4;obtain ⟨m1,m2⟩:=(bH _ _).1 p3;obtain ⟨n1,n2⟩:=(bH _ _).1 q3;have hPl:=(qat lv1 p1).length_eq;have hQl:=(qat lu1 q1).length_eq;have iL:inL v=v.l∧inL u=u.l:=by
   unfold inL;rw [←h1];by_cases hk:v.k=5
   ·simp only [if_pos hk];exact ⟨trivial,trivial⟩
   ·simp only [if_neg hk];exact ⟨(ov1 hk).symm,(ou1 (by rw [←h1];exact hk)).symm⟩
  have iM:inM v=v.ms∧inM u=u.ms∧inN v=v.ns∧inN u=u.ns:=by
   unfold inM inN;rw [←h1];by_cases hk:v.k=6
   ·simp only [if_pos hk];exact ⟨trivial,trivial,trivial,trivial⟩
   ·have e1:=ov2 hk;have e2:=ou2 (by rw [←h1];exact hk);have e3:v.ns=[]:=List.eq_nil_of_length_eq_zero (by rw [lv1,e1];rfl);have e4:u.ns=[]:=List.eq_nil_of_length_eq_zero (by rw [lu1,e2];rfl);simp only [if_neg hk];exact ⟨e1.symm,e2.symm,e3.symm,e4.symm⟩
  rw [iL.1,iL.2,fd] at h4;rw [iM.1,iM.2.1] at h5;rw [iM.1,iM.2.1,iM.2.2.1,iM.2.2.2,qcV _ _ _ _ lv1] at h6;have hal:a.l=b.l:=by
   refine List.ext_getElem (by omega) fun i i1 i2=>?_;have hm:=bu (List.getElem_mem i1);have j1:i<v.l.length:=by omega
   have j2:i<u.l.length:=by omega
   exact qmY h a.l[i] b.l[i] v.l[i] u.l[i] (by omega) (s2 i i1 j1) (t2 i i2 j2) (h4.2 i j1 j2) (cH lv2 (List.getElem_mem j1)) (cH lu2 (List.getElem_mem j2)) (qai ov3 (List.getElem_mem j1)) (qai ou3 (List.getElem_mem j2)) (qaf nv2 (List.getElem_mem j1)) (qaf nu2 (List.getElem_mem j2))
  have hvu:v.ns.Perm u.ns:=by
   refine qbt v.ns u.ns nv1 (fun x hx=>?_) (by omega);obtain ⟨i,hi,rfl⟩:=List.getElem_of_mem hx;exact (h6 i (by omega) hi).1
  have fa:=qdI lv1 p1;have fb:=qdI lu1 q1;rw [p2] at fa;rw [q2] at fb;have hns:a.ns=b.ns:=qcY _ _ (fa.trans (hvu.trans fb.symm)) a6 b6;have hms:a.ms=b.ms:=by
   refine List.ext_getElem (by rw [←a5,←b5,hns]) fun j i1 i2=>?_;have hm:=bu (List.getElem_mem i1);have jP:j<P.length:=by rw [m1,List.length_map] at i1;exact i1
   have jQ:j<Q.length:=by rw [n1,List.length_map] at i2;exact i2
   have c1:a.ns[j]'(by omega)=P[j].1:=by
    have:a.ns[j]'(by omega)=(P.map Prod.fst)[j]'(by simpa using jP):=by simp only [p2]
    rw [this,List.getElem_map]
   have c2:b.ns[j]'(by omega)=Q[j].1:=by
    have:b.ns[j]'(by omega)=(Q.map Prod.fst)[j]'(by simpa using jQ):=by simp only [q2]
    rw [this,List.getElem_map]
   have c3:P[j].1=Q[j].1:=by rw [←c1,←c2];simp only [hns]
   have y1:=m2 j i1 (by simpa using jP);have y2:=n2 j i2 (by simpa using jQ);rw [List.getElem_map] at y1 y2;obtain ⟨x,hx,ex⟩:=List.getElem_of_mem (p1.subset (List.getElem_mem jP));obtain ⟨t,ht',et⟩:=List.getElem_of_mem (q1.subset (List.getElem_mem jQ));rw [List.length_zip] at hx ht';rw [List.getElem_zip] at ex et;have x1:x<v.ns.length:=by omega
   have x2:x<v.ms.length:=by omega
   have z1:t<u.ns.length:=by omega
   have z2:t<u.ms.length:=by omega
   rw [←ex] at y1 c3;rw [←et] at y2 c3;obtain ⟨_,y,w1,w2⟩:=h6 x x2 x1;simp only at c3 y1 y2;rw [c3,qdg nu1 z1,List.getElem?_eq_getElem z2] at w1;injection w1 with w1
   rw [←w1] at w2;exact qmY h a.ms[j] b.ms[j] v.ms[x] u.ms[t] (by omega) y1 y2 w2 (cH lv3 (List.getElem_mem x2)) (cH lu3 (List.getElem_mem z2)) (qai ov4 (List.getElem_mem x2)) (qai ou4 (List.getElem_mem z2)) (qaf nv3 (List.getElem_mem x2)) (qaf nu3 (List.getElem_mem z2))
  exact qu7 (a1.trans (h1.trans b1.symm)) (a2.trans (h2.trans b2.symm)) (a3.trans (h3.trans b3.symm)) hal hns hms
theorem qsN {v:V} (hl:cA v) (hc:chk v=0):ndV v:=qrv v (qaF hc).2.2 hl (qaY v hl (qaF hc).1)
end Tr
end Go.Proofs.YtnecfkhbncepnaaGreatDoor
set_option linter.unusedSimpArgs false
namespace Go.Proofs.YtnecfkhbncepnaaGreatDoor
namespace Po
open Go.Proofs Go.RowKit Utf Sc Re Tr Nu
structure Gs (f:V→Option V) (l acc acc':List V) (k:Nat):Prop where
 ex:∃ g0,acc'=acc++g0∧qov f l=(qov f (l.drop k)).map fun r=>g0++r
 sz:acc'.length+bB (l.drop k)≤1000000000000
end Po
namespace Cd
open Go.Proofs Go.RowKit Utf Sc Re Tr Po
def qrq (v:V) (w:World) (e:Ending) (w':World):Prop:=
 ∃ (x:Value) (ps:List (List UInt8)),e = .returned x∧w'.ownsRow w.heap.size 9 1 x ps.length (aV ps)∧ps.Pairwise (fun a b=>ltN a b=true)∧(∀ n,n∈ps↔ca v n=true)∧Below w.heap.size w w'
def qqA (v:V) (w:World) (e:Ending) (w':World):Prop:=
 ∃ (v1:V) (cs:List Value) (F:List Nat),e = .returned (.agg cs.toArray)∧Srt v1 v∧RdF w' (qaL v v1) cs F∧F.Nodup∧(∀ k∈F,w.heap.size≤k∧k<w'.heap.size)∧Below w.heap.size w w'
theorem qrl (v:V) (cs:List Value) (w:World) (hz:szA 4611686018427387904 v) (hv:RdA w 0 w.heap.size v cs) :
  Calls Tryz.prog 6 #[.agg cs.toArray] w (qiB v 1500 w):=by
 obtain ⟨A0,c0,A20,c20,ecs, -⟩:=id hv.cells;have HF:=zh (fun (W:World) (hW:Below w.heap.size w W)=>qtP v cs 1500 (by omega) W hz (hv.below hW (Nat.le_refl _) hW.size));subst ecs;clear hv hz;obtain ⟨W0,hW0⟩:∃ W0,W0=w.alloc (.cells #[.int .i64 v.k,.int .i64 v.n,.string (aa v.s),.slice A0 v.l.length c0,.slice A20 v.ms.length c20] 25):=⟨_,rfl⟩
 have HB0:=zh (show Below w.heap.size w W0 by rw [hW0];exact (Below.refl _ _).alloc (Nat.le_refl _) _);have HR0:=zh (show W0.heap[w.heap.size]? = some (.cells #[.int .i64 v.k,.int .i64 v.n,.string (aa v.s),.slice A0 v.l.length c0,.slice A20 v.ms.length c20] 25 (0,0)) by rw [hW0];exact ag _ _);have HW0:=zh hW0;clear hW0;obtain ⟨k,hk⟩:∃ x,v.k=x:=⟨_,rfl⟩
 obtain ⟨n,hn⟩:∃ x,v.n=x:=⟨_,rfl⟩
 obtain ⟨S,hS⟩:∃ x,aa v.s=x:=⟨_,rfl⟩
 obtain ⟨l,hl⟩:∃ x,v.l.length=x:=⟨_,rfl⟩
 obtain ⟨m,hm⟩:∃ x,v.ms.length=x:=⟨_,rfl⟩
 rw [hk,hn,hS,hl,hm] at HF HR0 HW0 ⊢;clear hk hn hS hl hm;go_enter Tryz.func6,Tryz.ntmps6;have q:=HR0.out;rw [HW0.out] at q;obtain ⟨⟨p0,p1,p2,p3,p4⟩, -⟩:=af q;clear q;go_wp2_with fail;rw [←HW0.out];refine (HF.out _ HB0.out).mono ?_;rintro e w1 ⟨⟨b,rfl,hb⟩,hbel⟩;have HX:=zh hb;have HY:=zh (HB0.out.trans (hbel.mono HB0.out.size));clear hb hbel p0 p1 p2 p3 p4;go_wp2_with fail;go_ret;exact ⟨⟨b,rfl,HX.out⟩,HY.out⟩
end Cd
namespace Cd
open Go.Proofs Utf Sc Re Tr Em
set_option linter.unusedSimpArgs false
def awV:V:=mpV ([[64,116,121,112,101],[118,101,114,115,105,111,110],[117,105,100],[107,105,110,100],[97,46,98,58,99]],[txV [67,97,114,100],txV [49,46,48],txV [117],txV [105,110,100,105,118,105,100,117,97,108],mpV ([[122],[121]],[nmV 1,nmV 2])])
def awW:V:=mpV ([[117,105,100],[120]],[txV [],nmV 1])
def awS:V:=mpV ([[64,116,121,112,101],[97,46,98,58,99],[107,105,110,100],[117,105,100],[118,101,114,115,105,111,110]],[txV [67,97,114,100],mpV ([[121],[122]],[nmV 2,nmV 1]),txV [105,110,100,105,118,105,100,117,97,108],txV [117],txV [49,46,48]])
def awN:V:=mpV ([[97,46,98,58,99],[117,105,100],[118,101,114,115,105,111,110]],[mpV ([[121],[122]],[nmV 2,nmV 1]),txV [117],txV [49,46,48]])
theorem qqY:el [123,34,64,116,121,112,101,34,58,34,67,97,114,100,34,44,34,118,101,114,115,105,111,110,34,58,34,49,46,48,34,44,34,117,105,100,34,58,34,117,34,44,34,107,105,110,100,34,58,34,105,110,100,105,118,105,100,117,97,108,34,44,34,97,46,98,58,99,34,58,123,34,122,34,58,49,44,34,121,34,58,50,125,125] =
 ([(1,0,[123],0),(4,0,[64,116,121,112,101],1),(1,0,[58],8),(4,0,[67,97,114,100],9),(1,0,[44],15),(4,0,[118,101,114,115,105,111,110],16),(1,0,[58],25),(4,0,[49,46,48],26),(1,0,[44],31),(4,0,[117,105,100],32),(1,0,[58],37),(4,0,[117],38),(1,0,[44],41),(4,0,[107,105,110,100],42),(1,0,[58],48),(4,0,[105,110,100,105,118,105,100,117,97,108],49),(1,0,[44],61),(4,0,[97,46,98,58,99],62),(1,0,[58],69),(1,0,[123],70),(4,0,[122],71),(1,0,[58],74),(3,1,[],75),(1,0,[44],76),(4,0,[121],77),(1,0,[58],80),(3,2,[],81),(1,0,[125],82),(1,0,[125],83)],0,0):=by decide +kernel
theorem qsg:rdV [123,34,64,116,121,112,101,34,58,34,67,97,114,100,34,44,34,118,101,114,115,105,111,110,34,58,34,49,46,48,34,44,34,117,105,100,34,58,34,117,34,44,34,107,105,110,100,34,58,34,105,110,100,105,118,105,100,117,97,108,34,44,34,97,46,98,58,99,34,58,123,34,122,34,58,49,44,34,121,34,58,50,125,125]=(awV,0,0):=
 qm3 qqY (by simp [rdT,eL,pV,pL,pM,tk,isM,qcP,Rs.map,txV,nmV,wdV,lsV,mpV,dA,dl,V0,awV,awW])
theorem qq6:el [123,34,117,105,100,34,58,34,34,44,34,120,34,58,49,125] =
 ([(1,0,[123],0),(4,0,[117,105,100],1),(1,0,[58],6),(4,0,[],7),(1,0,[44],9),(4,0,[120],10),(1,0,[58],13),(3,1,[],14),(1,0,[125],15)],0,0):=by decide +kernel
theorem qs5:rdV [123,34,117,105,100,34,58,34,34,44,34,120,34,58,49,125]=(awW,0,0):=
 qm3 qq6 (by simp [rdT,eL,pV,pL,pM,tk,isM,qcP,Rs.map,txV,nmV,wdV,lsV,mpV,dA,dl,V0,awV,awW])
theorem qrS:∀ n,ca awV n=false:=(qhr awV).1 (by decide +kernel)
theorem qn0 {v:V} (hk:v.k=6) {n:List UInt8} (h:ca v n=true):n∈v.ns++(Sm.ae Sm.nm0).map Sm.Pr.nm:=by
 rw [List.mem_append];rcases (qbg hk n).1 h with ⟨m,h1,h2, -⟩ | ⟨p,h1, -,h2, -⟩ | ⟨rfl,h1, -⟩
 ·exact .inl (h2▸qkJ h1)
 ·exact .inr (List.mem_map.2 ⟨p,h1,h2⟩)
 ·exact .inl h1
theorem qta:(awW.ns++(Sm.ae Sm.nm0).map Sm.Pr.nm).all (fun n=>decide (ca awW n=true↔n∈[[117,105,100],[118,101,114,115,105,111,110],[120]]))=true:=by decide +kernel
theorem qqu : [[117,105,100],[118,101,114,115,105,111,110],[120]].all (fun n=>ca awW n)=true:=by decide +kernel
theorem qsc (n:List UInt8):ca awW n=true↔n∈[[117,105,100],[118,101,114,115,105,111,110],[120]]:=by
 constructor
 ·intro h;have:=List.all_eq_true.1 qta n (qn0 rfl h);exact (of_decide_eq_true this).1 h
 ·intro h;exact List.all_eq_true.1 qqu n h
theorem qlQ {l r:List (List UInt8)} (hl:l.Pairwise fun a b=>ltN a b=true) (hr:r.Pairwise fun a b=>ltN a b=true) (h:∀ n,n∈l↔n∈r):l=r:=by
 have nd:∀ {q:List (List UInt8)},(q.Pairwise fun a b=>ltN a b=true)→q.Nodup:=fun hq=>hq.imp fun {a b} h e=>by subst e;rw [bT.irrefl] at h;cases h
 have le:∀ {q:List (List UInt8)},(q.Pairwise fun a b=>ltN a b=true)→q.Pairwise (fun a b=>ltN b a=false):=fun hq=>hq.imp fun {a b} h=>by
  cases hc:ltN b a with
  | false=>rfl
  | true=>
   have:=bT.trans _ _ _ h hc;rw [bT.irrefl] at this;cases this
 exact qcY l r ((List.perm_ext_iff_of_nodup (nd hl) (nd hr)).2 h) (le hl) (le hr)
theorem qty:qaL awV awS=awN:=by kernel_rfl
theorem qpj:chk awN=0:=by decide +kernel
theorem qgp:chk awV=0:=by decide +kernel
theorem qrX:qqs awN=[123,34,97,46,98,58,99,34,58,123,34,121,34,58,50,44,34,122,34,58,49,125,44,34,117,105,100,34,58,34,117,34,44,34,118,101,114,115,105,111,110,34,58,34,49,46,48,34,125]:=by
 unfold qqs;rw [if_pos qpj]
 decide +kernel
theorem cY (v:V) (h:v=awV∨v=awW∨v=awN):wfV v∧szU v≤1000∧cA v:=by
 rcases h with rfl | rfl | rfl
 ·refine ⟨?_,?_,?_⟩
  ·simp [awV,mpV,nmV,txV,wfV,wfL];decide
  ·simp [awV,mpV,nmV,txV,szU,cC]
  ·simp [awV,mpV,nmV,txV,cA,cI]
 ·refine ⟨?_,?_,?_⟩
  ·simp [awW,mpV,nmV,txV,wfV,wfL];decide
  ·simp [awW,mpV,nmV,txV,szU,cC]
  ·simp [awW,mpV,nmV,txV,cA,cI]
 ·refine ⟨?_,?_,?_⟩
  ·simp [awN,mpV,nmV,txV,wfV,wfL];decide
  ·simp [awN,mpV,nmV,txV,szU,cC]
  ·simp [awN,mpV,nmV,txV,cA,cI]
theorem eW (v:V) (hl:v.l=[]) (hn:v.ns=[]) (hm:v.ms=[]):Srt v v:=by
 rw [qbE,hl,hn,hm];exact ⟨rfl,rfl,rfl,(by rw [dQ]),rfl,List.Pairwise.nil,[],List.Perm.refl _,rfl,(by rw [List.map_nil,dQ])⟩
theorem qp7:Srt (mpV ([[121],[122]],[nmV 2,nmV 1])) (mpV ([[122],[121]],[nmV 1,nmV 2])):=by
 rw [qbE];refine ⟨rfl,rfl,rfl,(by show dQ [] [];rw [dQ]),rfl,(by show List.Pairwise _ [[121],[122]];decide +kernel),[([121],nmV 2),([122],nmV 1)],(List.Perm.swap _ _ _),rfl,?_⟩;show dQ [nmV 2,nmV 1] [nmV 2,nmV 1];rw [bH];refine ⟨rfl,fun i h1 h2=>?_⟩
 match i,h1 with
 | 0,_=>exact eW _ rfl rfl rfl
 | 1,_=>exact eW _ rfl rfl rfl
theorem qtj:Srt awS awV:=by
 rw [qbE];refine ⟨rfl,rfl,rfl,(by show dQ [] [];rw [dQ]),rfl,(by show List.Pairwise _ [[64,116,121,112,101],[97,46,98,58,99],[107,105,110,100],[117,105,100],[118,101,114,115,105,111,110]];decide +kernel),[([64,116,121,112,101],txV [67,97,114,100]),([97,46,98,58,99],mpV ([[122],[121]],[nmV 1,nmV 2])),([107,105,110,100],txV [105,110,100,105,118,105,100,117,97,108]),([117,105,100],txV [117]),([118,101,114,115,105,111,110],txV [49,46,48])],(List.Perm.cons _ (List.reverse_perm [([118,101,114,115,105,111,110],txV [49,46,48]),([117,105,100],txV [117]),([107,105,110,100],txV [105,110,100,105,118,105,100,117,97,108]),([97,46,98,58,99],mpV ([[122],[121]],[nmV 1,nmV 2]))])),rfl,?_⟩;show dQ [txV [67,97,114,100],mpV ([[121],[122]],[nmV 2,nmV 1]),txV [105,110,100,105,118,105,100,117,97,108],txV [117],txV [49,46,48]] [txV [67,97,114,100],mpV ([[122],[121]],[nmV 1,nmV 2]),txV [105,110,100,105,118,105,100,117,97,108],txV [117],txV [49,46,48]];rw [bH];refine ⟨rfl,fun i h1 h2=>?_⟩
 match i,h1 with
 | 0,_=>exact eW _ rfl rfl rfl
 | 1,_=>exact qp7
 | 2,_=>exact eW _ rfl rfl rfl
 | 3,_=>exact eW _ rfl rfl rfl
 | 4,_=>exact eW _ rfl rfl rfl
theorem qs7 {v:V} (h:Srt v awV):qaL awV v=awN:=by
 have hl:cA awV:=(cY awV (.inl rfl)).2.2;have ho:oV awV:=qcy _ (qaF qgp).2.2;have hn:ndV awV:=qsN hl qgp;rw [qmY (ht v) v awS awV awV (Nat.le_refl _) h qtj (qgl (ht v) v awV awV (Nat.le_refl _) h h hl hl ho hn) hl hl ho ho hn hn];exact qty
end Cd
end Go.Proofs.YtnecfkhbncepnaaGreatDoor
set_option linter.unusedSimpArgs false
namespace Go.Proofs.YtnecfkhbncepnaaGreatDoor
namespace Po
open Go.Proofs Go.RowKit Utf Sc Re Tr Nu
theorem _root_.Go.Proofs.YtnecfkhbncepnaaGreatDoor.Re.RdA.more {w:World} {lo hi hi':Nat} {v:V} {cs:List Value} (h:RdA w lo hi v cs) (hh:hi≤hi'):RdA w lo hi' v cs:=RdA.keep (fun _ _ _=>rfl) (Nat.le_refl _) hh _ _ h
end Po
end Go.Proofs.YtnecfkhbncepnaaGreatDoor
set_option linter.unusedSimpArgs false
namespace Go.Proofs.YtnecfkhbncepnaaGreatDoor
namespace Po
open Go.Proofs Go.RowKit Utf Sc Re Tr Em
theorem _root_.Go.Proofs.YtnecfkhbncepnaaGreatDoor.Re.RdA.wide {w:World} {lo hi:Nat} {v:V} {cs:List Value} (h:RdA w lo hi v cs):RdA w 0 hi v cs:=RdA.keep (fun _ _ _=>rfl) (Nat.zero_le _) (Nat.le_refl _) _ _ h
