/- Merged: TsA TsB TsK PaPl PaBe PaPl2 PaT. -/
import Derived.Test.YtnecfkhbncepnaaGreatDoorTt36
import Derived.Test.YtnecfkhbncepnaaGreatDoorTt47
namespace Go.Proofs.YtnecfkhbncepnaaGreatDoor
namespace Tr
open Go.Proofs Go.RowKit Go.Lib Utf Sc Re
open Em (d7 cO aZ br qkG qjZ)
mutual
theorem qcJ:∀ v:V,d7 v→oV v
 | .mk k n s l ns ms,h=>by
  rw [d7] at h;rw [oV];exact ⟨fun hk=>qkG h.1 hk,fun hk=>qjZ h.1 hk,qc9 l h.2.1,qc9 ms h.2.2⟩
theorem qc9:∀ l:List V,cO l→oL l
 | [],_=>by rw [oL];trivial
 | v::r,h=>by
  rw [cO] at h;rw [oL];exact ⟨qcJ v h.1,qc9 r h.2⟩
end
theorem qmD {l r:List V} (h:l.Perm r) (ho:br l):br r:=by
 induction h with
 | nil=>exact ho
 | cons x _ ih=>rw [br] at ho ⊢;exact ⟨ho.1,ih ho.2⟩
 | swap x y l=>rw [br,br] at ho ⊢;exact ⟨ho.2.1,ho.1,ho.2.2⟩
 | trans _ _ h1 h2=>exact h2 (h1 ho)
theorem qax {v:V} {P:List (List UInt8×V)} (hl:v.ns.length=v.ms.length) (p:P.Perm (v.ns.zip v.ms)):(P.map Prod.snd).Perm v.ms:=by
 have:=p.map Prod.snd;rwa [List.map_snd_zip (by omega)] at this
theorem qbT (v:V):aZ v↔v.ns.length=v.ms.length∧br v.l∧br v.ms:=by cases v;rw [aZ];rfl
theorem qj0 (v:V):1≤cnt v:=by rw [qeK];omega
end Tr
namespace Tr
open Go.Proofs Go.RowKit Go.Lib Utf Sc Re
open Em (d7 cO aZ br own qan szU aL wfV wfL chk qav qaU okW)
theorem qnb {l r:List V} (h:l.Perm r) (d:Nat):dpL l d=dpL r d:=by
 induction h with
 | nil=>rfl
 | cons x _ ih=>rw [dpL,dpL,ih]
 | swap x y l=>rw [dpL,dpL,dpL,dpL];omega
 | trans _ _ h1 h2=>exact h1.trans h2
theorem qme {l r:List V} (h:l.Perm r):aL l=aL r:=by
 induction h with
 | nil=>rfl
 | cons x _ ih=>rw [aL,aL,ih]
 | swap x y l=>rw [aL,aL,aL,aL];omega
 | trans _ _ h1 h2=>exact h1.trans h2
theorem qlD {l r:List V} (h:l.Perm r) (ho:cO l):cO r:=by
 induction h with
 | nil=>exact ho
 | cons x _ ih=>rw [cO] at ho ⊢;exact ⟨ho.1,ih ho.2⟩
 | swap x y l=>rw [cO,cO] at ho ⊢;exact ⟨ho.2.1,ho.1,ho.2.2⟩
 | trans _ _ h1 h2=>exact h2 (h1 ho)
theorem qoh {l r:List V} (h:l.Perm r) (ho:wfL l):wfL r:=by
 induction h with
 | nil=>exact ho
 | cons x _ ih=>rw [wfL] at ho ⊢;exact ⟨ho.1,ih ho.2⟩
 | swap x y l=>rw [wfL,wfL] at ho ⊢;exact ⟨ho.2.1,ho.1,ho.2.2⟩
 | trans _ _ h1 h2=>exact h2 (h1 ho)
theorem qez {v:V} {P:List (List UInt8×V)} (hl:v.ns.length=v.ms.length) (p:P.Perm (v.ns.zip v.ms)):(P.map Prod.fst).Perm v.ns:=by
 have:=p.map Prod.fst;rwa [List.map_fst_zip (by omega)] at this
theorem qnr {l r:List Nat} (h:l.Perm r):l.sum=r.sum:=by
 induction h with
 | nil=>rfl
 | cons x _ ih=>simp [ih]
 | swap x y l=>simp;omega
 | trans _ _ h1 h2=>exact h1.trans h2
theorem qqe (v:V):d7 v↔own v.k v.n v.s v.l.length v.ns v.ms.length∧cO v.l∧cO v.ms:=by cases v;rw [d7];rfl
theorem qtp (v:V):wfV v↔(Lit.int .i64 v.k).wf=true∧(Lit.int .i64 v.n).wf=true∧wfL v.l∧wfL v.ms:=by cases v;rw [wfV];rfl
theorem qs1 (v:V):szU v=1+v.s.length+aL v.l+(v.ns.map fun x=>1+x.length).sum+aL v.ms:=by cases v;rw [szU];rfl
theorem qoF {k n:Int} {s:List UInt8} {a b:Nat} {ns nt:List (List UInt8)} (h:ns.Perm nt) (ho:own k n s a ns b):own k n s a nt b:=by
 obtain ⟨h1,h2,h3,h4,h5⟩:=ho;refine ⟨h1,h2,h3,h4,fun hk hl=>?_⟩;obtain ⟨q1,q2⟩:=h5 hk (by rw [h.length_eq];exact hl);exact ⟨fun x hx=>q1 x (h.symm.subset hx),h.nodup_iff.1 q2⟩
mutual
theorem qet:∀ (a v:V),Srt a v→aZ v→(∀ d,dp a d=dp v d)∧(d7 v→d7 a)∧szU a=szU v∧(wfV v→wfV a)∧aZ a
 | .mk k n s l ns ms,v,h,hl=>by
  rw [Srt] at h;obtain ⟨h1,h2,h3,h4,h5, -,P,p1,p2,p3⟩:=h;have hv:=(qbT v).1 hl;have hp:=qax hv.1 p1;have hf:=qez hv.1 p1;rw [p2] at hf;obtain ⟨k1,k2,k3,k4,k5⟩:=qcE l v.l h4 hv.2.1;obtain ⟨m1,m2,m3,m4,m5⟩:=qcE ms _ p3 (qmD hp.symm hv.2.2);have e1:=((bE _ _).1 h4).1;have e2:=((bE _ _).1 p3).1;rw [hp.length_eq] at e2;refine ⟨fun d=>?_,fun ho=>?_,?_,fun ho=>?_,?_⟩
  ·cases v;rw [dp,dp,k1,m1,qnb hp];rfl
  ·obtain ⟨o1,o2,o3⟩:=(qqe v).1 ho;rw [d7];refine ⟨?_,k2 o2,m2 (qlD hp.symm o3)⟩;rw [h1,h2,h3,e1,e2];exact qoF hf.symm o1
  ·rw [szU,qs1 v,k3,m3,qme hp,h3,qnr (hf.map fun x=>1+x.length)]
  ·obtain ⟨o1,o2,o3,o4⟩:=(qtp v).1 ho;rw [wfV];exact ⟨by rw [h1];exact o1,by rw [h2];exact o2,k4 o3,m4 (qoh hp.symm o4)⟩
  ·rw [aZ];exact ⟨h5,k5,m5⟩
theorem qcE:∀ (l r:List V),dM l r→br r→(∀ d,dpL l d=dpL r d)∧(cO r→cO l)∧aL l=aL r∧(wfL r→wfL l)∧br l
 | [],r,h,hl=>by
  rw [dM] at h;subst h;exact ⟨fun _=>rfl,fun h=>h,rfl,fun h=>h,hl⟩
 | x::t,r,h,hl=>by
  rw [dM] at h;obtain ⟨y,u,rfl,h1,h2⟩:=h;rw [br] at hl;obtain ⟨k1,k2,k3,k4,k5⟩:=qet x y h1 hl.1;obtain ⟨m1,m2,m3,m4,m5⟩:=qcE t u h2 hl.2;refine ⟨fun d=>by rw [dpL,dpL,k1,m1],fun ho=>?_,by rw [aL,aL,k3,m3],fun ho=>?_,by rw [br];exact ⟨k5,m5⟩⟩
  ·rw [cO] at ho ⊢;exact ⟨k2 ho.1,m2 ho.2⟩
  ·rw [wfL] at ho ⊢;exact ⟨k4 ho.1,m4 ho.2⟩
end
mutual
/-- no map has a name twice -/
def ndV:V→Prop
 | .mk _ _ _ l ns ms=>ns.Nodup∧ndL l∧ndL ms
def ndL:List V→Prop
 | []=>True
 | v::r=>ndV v∧ndL r
end
theorem qjo (v:V):ndV v↔v.ns.Nodup∧ndL v.l∧ndL v.ms:=by cases v;rw [ndV];rfl
theorem qaf {v:V}:∀ {l:List V},ndL l→v∈l→ndV v
 | [],_,h=>by cases h
 | a::r,h,hv=>by
  rw [ndL] at h;rcases List.mem_cons.1 hv with rfl | hv
  ·exact h.1
  ·exact qaf h.2 hv
mutual
theorem qrm:∀ v:V,d7 v→aZ v→Em.qdP v→ndV v
 | .mk k n s l ns ms,h,hl,hs=>by
  rw [d7] at h;rw [aZ] at hl;rw [Em.qdP] at hs;rw [ndV];refine ⟨?_,qjj l h.2.1 hl.2.1 hs.2.1,qjj ms h.2.2 hl.2.2 hs.2.2⟩;by_cases hk:k=6
  ·exact (h.1.2.2.2.2 hk hs.1).2
  ·have:=h.1.1.2.2.2.2 hk;have e:ns=[]:=List.eq_nil_of_length_eq_zero (by omega);rw [e];exact List.nodup_nil
theorem qjj:∀ l:List V,cO l→br l→Em.eF l→ndL l
 | [],_,_,_=>by rw [ndL];trivial
 | v::r,h,hl,hs=>by
  rw [cO] at h;rw [br] at hl;rw [Em.eF] at hs;rw [ndL];exact ⟨qrm v h.1 hl.1 hs.1,qjj r h.2 hl.2 hs.2⟩
end
theorem qdi {ns:List (List UInt8)} (h:ns.Nodup) {i:Nat} (hi:i<ns.length):ns.idxOf ns[i]=i:=by
 refine qfi hi (fun j hj hji e=>?_) rfl;have:=(List.nodup_iff_pairwise_ne.1 h)
 have:=List.pairwise_iff_getElem.1 this j i hj hi hji;exact this e
theorem ct {v:V}:∀ {l:List V},br l→v∈l→aZ v
 | [],_,h=>by cases h
 | a::r,h,hv=>by
  rw [br] at h;rcases List.mem_cons.1 hv with rfl | hv
  ·exact h.1
  ·exact ct h.2 hv
theorem qgu:∀ (h:Nat) (a v u:V),ht a≤h→Srt a v→Srt a u→aZ v→aZ u→oV v→ndV u→qio v u
 | 0,a,_,_,hh,_,_,_,_,_,_=>by rw [dL] at hh;omega
 | h+1,a,v,u,hh,hv,hu,lv,lu,ov,nu=>by
  obtain ⟨a1,a2,a3,a4,a5, -,P,p1,p2,p3⟩:=(qbu a v).1 hv;obtain ⟨b1,b2,b3,b4, -, -,Q,q1,q2,q3⟩:=(qbu a u).1 hu;obtain ⟨lv1,lv2,lv3⟩:=(qbT v).1 lv;obtain ⟨lu1,lu2,lu3⟩:=(qbT u).1 lu;obtain ⟨ov1,ov2,ov3,ov4⟩:=(qjT v).1 ov;obtain ⟨nu1,nu2,nu3⟩:=(qjo u).1 nu;have hht:=dL a;obtain ⟨s1,s2⟩:=(bE _ _).1 a4;obtain ⟨t1,t2⟩:=(bE _ _).1 b4;obtain ⟨m1,m2⟩:=(bE _ _).1 p3;obtain ⟨n1,n2⟩:=(bE _ _).1 q3;have hk:v.k=u.k:=a1.symm.trans b1;have hPl:=(qax lv1 p1).length_eq;have hQl:=(qax lu1 q1).length_eq;rw [qkO];refine ⟨hk,a2.symm.trans b2,a3.symm.trans b3,?_,?_,?_⟩
  ·rw [eI];unfold inL;rw [←hk];by_cases hk5:v.k=5
   ·simp only [if_pos hk5];refine ⟨s1.symm.trans t1,fun i h1 h2=>?_⟩;have hi:i<a.l.length:=by omega
    have hm:=bn (List.getElem_mem hi);exact qgu h a.l[i] v.l[i] u.l[i] (by omega) (s2 i hi h1) (t2 i hi h2) (ct lv2 (List.getElem_mem h1)) (ct lu2 (List.getElem_mem h2)) (qaa ov3 (List.getElem_mem h1)) (qaf nu2 (List.getElem_mem h2))
   ·simp only [if_neg hk5];exact ⟨trivial,fun i h=>by simp at h⟩
  ·unfold inM;rw [←hk];by_cases hk6:v.k=6
   ·simp only [if_pos hk6];omega
   ·simp only [if_neg hk6]
  ·rw [qcC _ _ _ _ (by unfold inN inM;split <;> simp [lv1])];unfold inM inN;rw [←hk];by_cases hk6:v.k=6
   ·simp only [if_pos hk6];intro i h1 h2;have hzv:i<(v.ns.zip v.ms).length:=by rw [List.length_zip];omega
    have hmem:(v.ns.zip v.ms)[i]∈P:=p1.symm.subset (List.getElem_mem hzv);rw [List.getElem_zip] at hmem;obtain ⟨j,hj,ej⟩:=List.getElem_of_mem hmem;have hja:j<a.ms.length:=by rw [m1,List.length_map];exact hj
    have hjq:j<Q.length:=by rw [n1,List.length_map] at hja;exact hja
    have hjn:j<a.ns.length:=by omega
    have x1:a.ns[j]=v.ns[i]:=by
     have:a.ns[j]=(P.map Prod.fst)[j]'(by simpa using hj):=by simp only [p2]
     rw [this,List.getElem_map,ej]
    have x2:a.ns[j]=Q[j].1:=by
     have:a.ns[j]=(Q.map Prod.fst)[j]'(by simpa using hjq):=by simp only [q2]
     rw [this,List.getElem_map]
    have y1:Srt a.ms[j] v.ms[i]:=by
     have:=m2 j hja (by simpa using hj);rwa [List.getElem_map,ej] at this
    have y2:Srt a.ms[j] Q[j].2:=by
     have:=n2 j hja (by simpa using hjq);rwa [List.getElem_map] at this
    have hqm:Q[j]∈u.ns.zip u.ms:=q1.subset (List.getElem_mem hjq);obtain ⟨t,ht',et⟩:=List.getElem_of_mem hqm;rw [List.length_zip] at ht';rw [List.getElem_zip] at et;have htn:t<u.ns.length:=by omega
    have htm:t<u.ms.length:=by omega
    have e1:u.ns[t]=v.ns[i]:=by rw [←x1,x2,←et]
    have e2:Q[j].2=u.ms[t]:=by rw [←et]
    refine ⟨by rw [←e1];exact List.getElem_mem htn,u.ms[t],?_,?_⟩
    ·rw [←e1,qdi nu1 htn,List.getElem?_eq_getElem htm]
    ·rw [e2] at y2;have hm:=bn (List.getElem_mem hja);exact qgu h a.ms[j] v.ms[i] u.ms[t] (by omega) y1 y2 (ct lv3 (List.getElem_mem h1)) (ct lu3 (List.getElem_mem htm)) (qaa ov4 (List.getElem_mem h1)) (qaf nu3 (List.getElem_mem htm))
   ·simp only [if_neg hk6];intro i h1;simp at h1
theorem qbm:∀ (l r:List (List UInt8)),l.Nodup→(∀ x∈l,x∈r)→l.length=r.length→l.Perm r
 | [],r,_,_,hl=>by rw [List.eq_nil_of_length_eq_zero hl.symm]
 | x::t,r,hn,hs,hl=>by
  have hx:=hs x (by simp);have hp:=List.perm_cons_erase hx;rw [List.nodup_cons] at hn;have:=qbm t (r.erase x) hn.2 (fun y hy=>by
   have hne:y≠x:=fun e=>hn.1 (e▸hy);exact (List.mem_erase_of_ne hne).2 (hs y (by simp [hy]))) (by have:=hp.length_eq;simp at this hl;omega)
  exact (this.cons x).trans hp.symm
theorem qcI:∀ (l r:List (List UInt8)),l.Perm r→l.Pairwise (fun a b=>ltN b a=false)→r.Pairwise (fun a b=>ltN b a=false)→l=r
 | [],r,hp,_,_=>by rw [List.nil_perm.1 hp]
 | x::t,r,hp,h1,h2=>by
  cases r with
  | nil=>exact absurd hp.length_eq (by simp)
  | cons y u=>
   rw [List.pairwise_cons] at h1 h2;have e:x=y:=by
    rcases List.mem_cons.1 (hp.subset (show x∈x::t by simp)) with h | h
    ·exact h
    ·rcases List.mem_cons.1 (hp.symm.subset (show y∈y::u by simp)) with k | k
     ·exact k.symm
     ·exact (qng (h2.1 x h) (h1.1 y k)).symm▸rfl
   subst e;rw [qcI t u (List.perm_cons x |>.1 hp) h1.2 h2.2]
theorem quo:∀ {a b:V},a.k=b.k→a.n=b.n→a.s=b.s→a.l=b.l→a.ns=b.ns→a.ms=b.ms→a=b
 | .mk ..,.mk ..,rfl,rfl,rfl,rfl,rfl,rfl=>rfl
theorem qnk:∀ (h:Nat) (a b v u:V),ht a≤h→Srt a v→Srt b u→qio v u→aZ v→aZ u→oV v→oV u→ndV v→ndV u→a=b
 | 0,a,_,_,_,hh,_,_,_,_,_,_,_,_,_=>by rw [dL] at hh;omega
 | h+1,a,b,v,u,hh,hv,hu,hs,lv,lu,ov,ou,nv,nu=>by
  obtain ⟨a1,a2,a3,a4,a5,a6,P,p1,p2,p3⟩:=(qbu a v).1 hv;obtain ⟨b1,b2,b3,b4,b5,b6,Q,q1,q2,q3⟩:=(qbu b u).1 hu;obtain ⟨lv1,lv2,lv3⟩:=(qbT v).1 lv;obtain ⟨lu1,lu2,lu3⟩:=(qbT u).1 lu;obtain ⟨ov1,ov2,ov3,ov4⟩:=(qjT v).1 ov;obtain ⟨ou1,ou2,ou3,ou4⟩:=(qjT u).1 ou;obtain ⟨nu1,nu2,nu3⟩:=(qjo u).1 nu;obtain ⟨nv1,nv2,nv3⟩:=(qjo v).1 nv;obtain ⟨h1,h2,h3,h4,h5,h6⟩:=(qkO v u).1 hs;have hht:=dL a;obtain ⟨s1,s2⟩:=(bE _ _).1 a4;obtain ⟨t1,t2⟩:=(bE _ _).1 b4;obtain ⟨m1,m2⟩:=(bE _ _).1 p3;obtain ⟨n1,n2⟩:=(bE _ _).1 q3;have hPl:=(qax lv1 p1).length_eq;have hQl:=(qax lu1 q1).length_eq;have iL:inL v=v.l∧inL u=u.l:=by
   unfold inL;rw [←h1];by_cases hk:v.k=5
   ·simp only [if_pos hk];exact ⟨trivial,trivial⟩
   ·simp only [if_neg hk];exact ⟨(ov1 hk).symm,(ou1 (by rw [←h1];exact hk)).symm⟩
  have iM:inM v=v.ms∧inM u=u.ms∧inN v=v.ns∧inN u=u.ns:=by
   unfold inM inN;rw [←h1];by_cases hk:v.k=6
   ·simp only [if_pos hk];exact ⟨trivial,trivial,trivial,trivial⟩
   ·have e1:=ov2 hk;have e2:=ou2 (by rw [←h1];exact hk);have e3:v.ns=[]:=List.eq_nil_of_length_eq_zero (by rw [lv1,e1];rfl);have e4:u.ns=[]:=List.eq_nil_of_length_eq_zero (by rw [lu1,e2];rfl);simp only [if_neg hk];exact ⟨e1.symm,e2.symm,e3.symm,e4.symm⟩
  rw [iL.1,iL.2,eI] at h4;rw [iM.1,iM.2.1] at h5;rw [iM.1,iM.2.1,iM.2.2.1,iM.2.2.2,qcC _ _ _ _ lv1] at h6;have hal:a.l=b.l:=by
   refine List.ext_getElem (by omega) fun i i1 i2=>?_;have hm:=bn (List.getElem_mem i1);have j1:i<v.l.length:=by omega
   have j2:i<u.l.length:=by omega
   exact qnk h a.l[i] b.l[i] v.l[i] u.l[i] (by omega) (s2 i i1 j1) (t2 i i2 j2) (h4.2 i j1 j2) (ct lv2 (List.getElem_mem j1)) (ct lu2 (List.getElem_mem j2)) (qaa ov3 (List.getElem_mem j1)) (qaa ou3 (List.getElem_mem j2)) (qaf nv2 (List.getElem_mem j1)) (qaf nu2 (List.getElem_mem j2))
  have hvu:v.ns.Perm u.ns:=by
   refine qbm v.ns u.ns nv1 (fun x hx=>?_) (by omega);obtain ⟨i,hi,rfl⟩:=List.getElem_of_mem hx;exact (h6 i (by omega) hi).1
  have fa:=qez lv1 p1;have fb:=qez lu1 q1;rw [p2] at fa;rw [q2] at fb;have hns:a.ns=b.ns:=qcI _ _ (fa.trans (hvu.trans fb.symm)) a6 b6;have hms:a.ms=b.ms:=by
   refine List.ext_getElem (by rw [←a5,←b5,hns]) fun j i1 i2=>?_;have hm:=bn (List.getElem_mem i1);have jP:j<P.length:=by rw [m1,List.length_map] at i1;exact i1
   have jQ:j<Q.length:=by rw [n1,List.length_map] at i2;exact i2
   have c1:a.ns[j]'(by omega)=P[j].1:=by
    have:a.ns[j]'(by omega)=(P.map Prod.fst)[j]'(by simpa using jP):=by simp only [p2]
    rw [this,List.getElem_map]
   have c2:b.ns[j]'(by omega)=Q[j].1:=by
    have:b.ns[j]'(by omega)=(Q.map Prod.fst)[j]'(by simpa using jQ):=by simp only [q2]
    rw [this,List.getElem_map]
   have c3:P[j].1=Q[j].1:=by rw [←c1,←c2];simp only [hns]
   have y1:=m2 j i1 (by simpa using jP);have y2:=n2 j i2 (by simpa using jQ);rw [List.getElem_map] at y1 y2;obtain ⟨x,hx,ex⟩:=List.getElem_of_mem (p1.subset (List.getElem_mem jP));obtain ⟨t,ht',et⟩:=List.getElem_of_mem (q1.subset (List.getElem_mem jQ));rw [List.length_zip] at hx ht';rw [List.getElem_zip] at ex et;have x1:x<v.ns.length:=by omega
   have x2:x<v.ms.length:=by omega
   have z1:t<u.ns.length:=by omega
   have z2:t<u.ms.length:=by omega
   rw [←ex] at y1 c3;rw [←et] at y2 c3;obtain ⟨_,y,w1,w2⟩:=h6 x x2 x1;simp only at c3 y1 y2;rw [c3,qdi nu1 z1,List.getElem?_eq_getElem z2] at w1;injection w1 with w1
   rw [←w1] at w2;exact qnk h a.ms[j] b.ms[j] v.ms[x] u.ms[t] (by omega) y1 y2 w2 (ct lv3 (List.getElem_mem x2)) (ct lu3 (List.getElem_mem z2)) (qaa ov4 (List.getElem_mem x2)) (qaa ou4 (List.getElem_mem z2)) (qaf nv3 (List.getElem_mem x2)) (qaf nu3 (List.getElem_mem z2))
  exact quo (a1.trans (h1.trans b1.symm)) (a2.trans (h2.trans b2.symm)) (a3.trans (h3.trans b3.symm)) hal hns hms
theorem qs2 {v:V} (hl:aZ v) (hc:chk v=0):ndV v:=qrm v (qav hc).2.2 hl (qaU v hl (qav hc).1)
end Tr
namespace Tr
open Go.Proofs Go.RowKit Go.Lib Utf Sc Re
theorem qhg {ns:List (List UInt8)} {nm:List UInt8} (r:List (List UInt8)) (h:nm∈ns):(ns++r).idxOf nm=ns.idxOf nm:=by
 induction ns with
 | nil=>cases h
 | cons a t ih=>
  rw [List.cons_append,List.idxOf_cons,List.idxOf_cons];by_cases e:a=nm
  ·simp [e]
  ·have hb:(a==nm)=false:=by simpa using e
   rcases List.mem_cons.1 h with k | k
   ·exact absurd k.symm e
   ·rw [hb,cond_false,cond_false,ih k]
theorem qdd {ns:List (List UInt8)} {nm:List UInt8} (r:List (List UInt8)) (h:nm∉ns):(ns++r).idxOf nm=ns.length+r.idxOf nm:=by
 induction ns with
 | nil=>simp
 | cons a t ih=>
  have e:a≠nm:=fun e=>h (by rw [e];simp);have hb:(a==nm)=false:=by simpa using e
  rw [List.cons_append,List.idxOf_cons,hb,cond_false,ih (fun k=>h (by simp [k]))];simp;omega
theorem qoq (x:List (List UInt8)×List V):inN (mpV x)=x.1:=rfl
theorem qpj (x:List (List UInt8)×List V):inM (mpV x)=x.2:=rfl
theorem qiR (v:V) (nm:List UInt8):b9 v nm=(inM v)[(inN v).idxOf nm]?.getD V0:=by
 unfold b9;rw [List.getD_eq_getElem?_getD]
theorem qls (v x:V) (nm:List UInt8) (hl:(inN v).length=(inM v).length):nm∈inN (mpV (qb0 v nm,qcm v nm x))∧b9 (mpV (qb0 v nm,qcm v nm x)) nm=x:=by
 rw [qiR,qoq,qpj];unfold qb0 qcm;by_cases h:nm∈inN v
 ·simp only [if_pos h];refine ⟨h,?_⟩;have hi:=List.idxOf_lt_length_of_mem h;rw [List.getElem?_set_self (by omega)];rfl
 ·simp only [if_neg h];refine ⟨by simp,?_⟩;rw [qdd [nm] h,hl];simp
theorem qjx (v x:V) (nm o:List UInt8) (hl:(inN v).length=(inM v).length) (ho:o≠nm):(o∈inN (mpV (qb0 v nm,qcm v nm x))↔o∈inN v)∧b9 (mpV (qb0 v nm,qcm v nm x)) o=b9 v o:=by
 rw [qiR,qiR,qoq,qpj];unfold qb0 qcm;by_cases h:nm∈inN v
 ·simp only [if_pos h];refine ⟨trivial,?_⟩;have hne:(inN v).idxOf nm≠(inN v).idxOf o:=fun e=>by
   have h1:=List.getElem_idxOf (List.idxOf_lt_length_of_mem h);by_cases hm:o∈inN v
   ·have h2:=List.getElem_idxOf (List.idxOf_lt_length_of_mem hm);simp only [←e] at h2;exact ho (h2.symm.trans h1)
   ·rw [List.idxOf_eq_length hm] at e;have:=List.idxOf_lt_length_of_mem h;omega
  rw [List.getElem?_set_ne hne]
 ·simp only [if_neg h];refine ⟨by simp [ho],?_⟩;by_cases hm:o∈inN v
  ·have hi:=List.idxOf_lt_length_of_mem hm;rw [qhg [nm] hm,List.getElem?_append_left (by omega)]
  ·have hb:(nm==o)=false:=by simpa using fun e=>ho e.symm
   rw [qdd [nm] hm,List.idxOf_eq_length hm,List.idxOf_cons,hb];rw [List.getElem?_eq_none (by simp;omega),List.getElem?_eq_none (by omega)]
end Tr
namespace Pa
open Go.Proofs Go.RowKit Utf Sc Re Tr Po
open Em (aZ br szU aL wfV wfL d7 cO)
def qhF (v:V) (p:List UInt8):Option V:=if p∈inN v then some (b9 v p) else none
def qtB:List (List UInt8)→V→Option V
 | [],v=>some v
 | p::r,v=>(qhF v p).bind (qtB r)
def okP:List (List UInt8)→V→Prop
 | [],_=>False
 | [_],v=>v.k=6
 | p::q::r,v=>v.k=6∧p∈inN v∧okP (q::r) (b9 v p)
def qlR:List (List UInt8)→V→V→V
 | [],_,v=>v
 | [p],x,v=>if x.k=1 then mpV (woN v p,woM v p) else mpV (qb0 v p,qcm v p x)
 | p::q::r,x,v=>mpV (qb0 v p,qcm v p (qlR (q::r) x (b9 v p)))
def qtN (v:V) (m:List (List UInt8)×V):V:=if (qtB m.1 v).isSome=true∨m.2.k≠1 then qlR m.1 m.2 v else v
theorem qtV {v:V} {p:List UInt8} (h:p∈inN v):v.k=6:=by
 unfold inN at h;split at h
 ·assumption
 ·cases h
theorem qgC {v:V} (h:aZ v):(inN v).length=(inM v).length:=by
 cases v;rw [aZ] at h;unfold inN inM;split
 ·exact h.1
 ·rfl
theorem qmi {v:V} (hl:aZ v) (p o:List UInt8) (x:V):qhF (mpV (qb0 v p,qcm v p x)) o=if o=p then some x else qhF v o:=by
 unfold qhF;by_cases e:o=p
 ·subst e;obtain ⟨h1,h2⟩:=qls v x o (qgC hl);rw [if_pos h1,if_pos rfl,h2]
 ·obtain ⟨h1,h2⟩:=qjx v x p o (qgC hl) e;rw [if_neg e,h2];by_cases h:o∈inN v
  ·rw [if_pos (h1.2 h),if_pos h]
  ·rw [if_neg (fun k=>h (h1.1 k)),if_neg h]
theorem qtU:∀ {ps:List (List UInt8)} {x v:V},v.k=6→(qlR ps x v).k=6
 | [],_,_,h=>h
 | [_],x,v,_=>by rw [qlR];split <;> rfl
 | _::_::_,_,_,_=>rfl
theorem qaM {v:V}:∀ {l:List V},br l→v∈l→aZ v
 | [],_,h=>by cases h
 | a::r,h,hv=>by
  rw [br] at h;rcases List.mem_cons.1 hv with rfl | hv
  ·exact h.1
  ·exact qaM h.2 hv
theorem qpO {v:V} (hl:aZ v) {p:List UInt8} (h:p∈inN v):b9 v p∈v.ms:=by
 have h1:=List.idxOf_lt_length_of_mem h;rw [qgC hl] at h1;rw [qkf h1 rfl];exact qp0 (List.getElem_mem h1)
theorem qnD {v:V} (hl:aZ v) {p:List UInt8} (h:p∈inN v):aZ (b9 v p):=by
 refine qaM (l:=v.ms) ?_ (qpO hl h);cases v;rw [aZ] at hl;exact hl.2.2
theorem qq1 {v:V} {p:List UInt8} (h:p∈inN v):qhF v p=some (b9 v p):=if_pos h
theorem qmM {v y:V} {p:List UInt8} (h:qhF v p=some y):p∈inN v∧b9 v p=y:=by
 unfold qhF at h;split at h
 ·rename_i hm;injection h with h;exact ⟨hm,h⟩
 ·cases h
theorem qon {p:List UInt8} {q:List (List UInt8)} {v:V} (hq:q≠[]):okP (p::q) v↔∃ y,qhF v p=some y∧okP q y:=by
 cases q with
 | nil=>exact absurd rfl hq
 | cons a r=>
  constructor
  ·intro h;exact ⟨_,qq1 h.2.1,h.2.2⟩
  ·rintro ⟨y,h1,h2⟩;obtain ⟨h3,rfl⟩:=qmM h1;exact ⟨qtV h3,h3,h2⟩
theorem qkD:∀ {ps:List (List UInt8)} {x v:V},okP ps v→aZ v→okP ps (qlR ps x v)
 | [],_,_,h,_=>h.elim
 | [p],x,v,h,_=>qtU h
 | p::q::r,x,v,h,hv=>by
  rw [qon (by simp)];exact ⟨_,by rw [qlR,qmi hv,if_pos rfl],qkD h.2.2 (qnD hv h.2.1)⟩
theorem qcy {m:List (List UInt8)×V} {v:V} (h:okP m.1 v) (hv:aZ v):okP m.1 (qtN v m):=by
 unfold qtN;split
 ·exact qkD h hv
 ·exact h
theorem qdA (v:V):szU v=1+v.s.length+aL v.l+(v.ns.map fun x=>1+x.length).sum+aL v.ms:=by cases v;rw [szU];rfl
theorem qaC {v:V}:∀ {l:List V},v∈l→szU v≤aL l
 | [],h=>by cases h
 | a::r,h=>by
  rw [aL];rcases List.mem_cons.1 h with rfl | h
  ·omega
  ·have:=qaC h;omega
end Pa
namespace Pa
open Go.Proofs Go.RowKit Go.Lib Utf Sc Re Tr
theorem qhi (s:ByteArray) (n:Nat):(s.extract 0 n).toList=s.data.toList.take n:=by
 rw [ByteArray.toList_eq,ByteArray.data_extract];simp
theorem qiq (s:ByteArray) (n:Nat):(s.extract n s.size).data.toList=s.data.toList.drop n:=by
 rw [ByteArray.data_extract];simp only [Array.toList_extract,List.extract];exact List.take_of_length_le (by rw [List.length_drop,ac];exact Nat.le_refl _)
end Pa
namespace Pa
open Go.Proofs Go.RowKit Utf Sc Re Tr Po
open Em (aZ br szU aL wfV wfL d7 cO)
inductive D:Type
 | mk (k n:Int) (s:List UInt8) (l:List D) (f:List UInt8→Option D):D
end Pa
namespace Pa
open Go.Proofs Go.RowKit Go.Lib Utf Sc Re Tr
open Em (aZ br)
abbrev M3:=M6×V×List Nat
def tN (T:List M3):List (List UInt8):=T.map fun t=>t.1.nm
def tV (T:List M3):List V:=T.map fun t=>t.2.1
def tF (T:List M3):List Nat:=(T.map fun t=>t.2.2).flatten
theorem qop (T:List M3):(tV T).length=T.length:=List.length_map _
theorem qo8 {T:List M3} {t:M3} {k:Nat} (ht:t∈T) (hk:k∈t.2.2):k∈tF T:=by
 unfold tF;rw [List.mem_flatten];exact ⟨t.2.2,List.mem_map.2 ⟨t,ht,rfl⟩,hk⟩
theorem qt7 {T:List M3} {k:Nat} (h:k∈tF T):∃ t∈T,k∈t.2.2:=by
 unfold tF at h;rw [List.mem_flatten] at h;obtain ⟨l,hl,hk⟩:=h;obtain ⟨t,ht,rfl⟩:=List.mem_map.1 hl;exact ⟨t,ht,hk⟩
theorem du (t:M3) (T:List M3):tF (t::T)=t.2.2++tF T:=by unfold tF;rfl
theorem qhZ {w:World} {g:Nat}:∀ (ms:List V) (ns:List (List UInt8)) (F:List Nat) (i:Nat),bf w g i ns ms F→ns.length=ms.length→∃ T:List M3,tN T=ns∧tV T=ms∧tF T=F∧(∀ j (h:j<T.length),am w g ((i+j)*6) (aj T[j].1))∧∀ t∈T,RdF w t.2.1 (dl t.1) t.2.2
 | [],ns,F,i,h,hn=>by
  rw [bf] at h;subst h;exact ⟨[],by rw [List.eq_nil_of_length_eq_zero hn];rfl,rfl,rfl,(fun j h=>by simp at h),fun t h=>by cases h⟩
 | v::r,ns,F,i,h,hn=>by
  rw [bf] at h;obtain ⟨nm,ns',cs,F1,F2,rfl,rfl,h1,h2,h3⟩:=h;obtain ⟨T,t1,t2,t3,t4,t5⟩:=qhZ r ns' F2 (i+1) h3 (by simpa using hn);obtain ⟨A,c,A2,c2,FL,FM,rfl, -⟩:=h2.cells;refine ⟨(⟨nm,v.k,v.n,aa v.s,A,v.l.length,c,A2,v.ms.length,c2⟩,v,F1)::T,by rw [←t1];rfl,by rw [←t2];rfl,by rw [du,t3],fun j hj=>?_,fun t ht=>?_⟩
  ·cases j with
   | zero=>exact h1
   | succ j=>
    have:=t4 j (by simpa using hj);rw [show i+(j+1)=i+1+j by omega];exact this
  ·rcases List.mem_cons.1 ht with rfl | ht
   ·exact h2
   ·exact t5 t ht
structure qh1 (w:World) (A:Option Addr) (T:List M3) (FM:List Nat):Prop where
 at_:0<T.length→∃ g,A=some ⟨g,0,none⟩∧FM=g::tF T∧∀ j (h:j<T.length),am w g (j*6) (aj T[j].1)
 none_:T.length=0→FM=[]
 rd:∀ t∈T,RdF w t.2.1 (dl t.1) t.2.2
theorem qqv {w:World} {v:V} {cs:List Value} {F:List Nat} (h:RdF w v cs F):∃ A c A2 c2 FL FM T,cs=[.int .i64 v.k,.int .i64 v.n,.string (aa v.s),.slice A v.l.length c,.slice A2 v.ms.length c2]∧F=FL++FM∧tN T=v.ns∧tV T=v.ms∧qh1 w A2 T FM:=by
 obtain ⟨A,c,A2,c2,FL,FM,rfl,hn,rfl, -,hm⟩:=h.cells;rcases hm with ⟨h0,rfl⟩ | ⟨g,T',h0,rfl,rfl,hr⟩
 ·refine ⟨A,c,A2,c2,FL,[],[],rfl,rfl,?_,?_,⟨fun h=>by simp at h,fun _=>rfl,fun t h=>by cases h⟩⟩
  ·rw [List.eq_nil_of_length_eq_zero (hn.trans h0)];rfl
  ·rw [List.eq_nil_of_length_eq_zero h0];rfl
 ·obtain ⟨T,t1,t2,t3,t4,t5⟩:=qhZ v.ms v.ns T' 0 hr hn;refine ⟨A,c,_,c2,FL,g::T',T,rfl,rfl,t1,t2,⟨fun _=>⟨g,rfl,by rw [t3],fun j h=>by have:=t4 j h;rwa [Nat.zero_add] at this⟩,fun h=>?_,t5⟩⟩;rw [←t2,qop] at h0;omega
theorem qh1.sub {w:World} {A:Option Addr} {T:List M3} {FM:List Nat} (h:qh1 w A T FM) {k:Nat} (hk:k∈tF T):k∈FM:=by
 obtain ⟨t,ht,_⟩:=qt7 hk;obtain ⟨g,_,e,_⟩:=h.at_ (List.length_pos_of_mem ht);rw [e];exact List.mem_cons_of_mem _ hk
theorem qaZ {N:Nat}:∀ (T:List M3) (i:Nat) (x:M3) (hi:i<T.length),(tF T).Nodup→x.2.2.Nodup→(∀ k∈x.2.2,k∈T[i].2.2∨N≤k)→(∀ k∈tF T,k<N)→(tF (T.set i x)).Nodup∧∀ k∈tF (T.set i x),k∈tF T∨N≤k
 | [],_,_,h,_,_,_,_=>by simp at h
 | t::T,0,x,_,hn,hx,hs,hlt=>by
  rw [du,List.nodup_append] at hn;rw [List.set_cons_zero,du,List.nodup_append,du];refine ⟨⟨hx,hn.2.1,fun a ha b hb e=>?_⟩,fun k hk=>?_⟩
  ·subst e;rcases hs a ha with h | h
   ·exact hn.2.2 a h a hb rfl
   ·have:=hlt a (by rw [du];exact List.mem_append_right _ hb);omega
  ·rcases List.mem_append.1 hk with hk | hk
   ·rcases hs k hk with h | h
    ·exact .inl (List.mem_append_left _ h)
    ·exact .inr h
   ·exact .inl (List.mem_append_right _ hk)
 | t::T,i+1,x,h,hn,hx,hs,hlt=>by
  rw [du,List.nodup_append] at hn;obtain ⟨h1,h2⟩:=qaZ T i x (by simpa using h) hn.2.1 hx (fun k hk=>by have:=hs k hk;simpa using this) (fun k hk=>hlt k (by rw [du];exact List.mem_append_right _ hk));rw [List.set_cons_succ,du,List.nodup_append,du];refine ⟨⟨hn.1,h1,fun a ha b hb e=>?_⟩,fun k hk=>?_⟩
  ·subst e;rcases h2 a hb with h | h
   ·exact hn.2.2 a ha a h rfl
   ·have:=hlt a (by rw [du];exact List.mem_append_left _ ha);omega
  ·rcases List.mem_append.1 hk with hk | hk
   ·exact .inl (List.mem_append_left _ hk)
   ·rcases h2 k hk with h | h
    ·exact .inl (List.mem_append_right _ h)
    ·exact .inr h
