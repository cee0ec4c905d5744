/- Merged: TsH TsI TsJ PoC. -/
import Derived.Test.YtofelafamfckiaaGreatDoorTt38
import Derived.Laws.AppendOwnNone
set_option maxRecDepth 100000
set_option maxHeartbeats 1000000
namespace Go.Proofs.YtofelafamfckiaaGreatDoor
namespace Tr
open Go.Proofs Go.RowKit Go.Lib Utf Sc Re
structure qdf (w0 wr:World) (base:Nat) (s:Value) (nx:List V) (rows:List (List Value)):Prop where
 len:rows.length=nx.length
 five:∀ r∈rows,r.length=5
 sz:aR 4611686018427387904 nx
 row:∀ k (h1:k<nx.length) (h2:k<rows.length),RdA w0 0 w0.heap.size nx[k] rows[k]
 own:wr.ownsRow base 25 5 s nx.length rows.flatten
theorem qdf.nil (w0 wr:World) (base:Nat):qdf w0 wr base (.slice none 0 0) [] []:=
 ⟨rfl,(fun r h=>by cases h),(by rw [aR];trivial),(fun k h=>by simp at h),World.ownsRow_nil _ _ _ _⟩
theorem qeW {B:Nat}:∀ {l r:List V},aR B l→aR B r→aR B (l++r)
 | [],_,_,h=>h
 | v::t,r,h,k=>by rw [aR] at h;rw [List.cons_append,aR];exact ⟨h.1,qeW h.2 k⟩
theorem qdf.app {w0 wr w':World} {base:Nat} {s s':Value} {nx ls:List V} {rows rows2:List (List Value)} (h:qdf w0 wr base s nx rows) (hl:rows2.length=ls.length) (h5:∀ r∈rows2,r.length=5) (hz:aR 4611686018427387904 ls)
  (hr:∀ k (h1:k<ls.length) (h2:k<rows2.length),RdA w0 0 w0.heap.size ls[k] rows2[k]) (ho:w'.ownsRow base 25 5 s' (nx.length+ls.length) (rows.flatten++rows2.flatten)):qdf w0 w' base s' (nx++ls) (rows++rows2) where
 len:=by simp [h.len,hl]
 five:=fun r hr=>by
  rcases List.mem_append.1 hr with k | k
  ·exact h.five r k
  ·exact h5 r k
 sz:=qeW h.sz hz
 row:=fun k h1 h2=>by
  by_cases hk:k<nx.length
  ·rw [List.getElem_append_left hk,List.getElem_append_left (by rw [h.len];exact hk)];exact h.row k hk (by rw [h.len];exact hk)
  ·have e:=h.len;have hb:k-nx.length<ls.length:=by simp at h1;omega
   rw [List.getElem_append_right (by omega),List.getElem_append_right (by omega)];have:=hr (k-nx.length) hb (by omega)
   simpa only [e] using this
 own:=by rw [List.length_append,List.flatten_append];exact ho
theorem qeg {w:World} {lo hi g:Nat}:∀ (l:List V) (o:Nat),(∀ k (h:k<l.length),∃ cs,(∀ j u,cs[j]? = some u→w.cell? ⟨g,o+k*5+j,none⟩=some u)∧RdA w lo hi l[k] cs)→aN w lo hi g o l
 | [],o,_=>by rw [aN];trivial
 | v::r,o,h=>by
  rw [aN];obtain ⟨cs,h1,h2⟩:=h 0 (by simp);refine ⟨⟨cs,fun j u hu=>by have:=h1 j u hu;rwa [Nat.zero_mul,Nat.add_zero] at this,h2⟩,qeg r (o+5) fun k hk=>?_⟩;obtain ⟨cs,q1,q2⟩:=h (k+1) (by simpa using hk);exact ⟨cs,fun j u hu=>by have:=q1 j u hu;rwa [show o+(k+1)*5+j=o+5+k*5+j by omega] at this,q2⟩
theorem qdf.read {w0 wr:World} {base:Nat} {A:Option Addr} {c:Nat} {nx:List V} {rows:List (List Value)} (h:qdf w0 wr base (.slice A nx.length c) nx rows) (hb:Below w0.heap.size w0 wr) :
  0<nx.length→∃ g o,A=some ⟨g,o,none⟩∧0≤g∧g<wr.heap.size∧aN wr 0 wr.heap.size g o nx:=fun h0=>by
 obtain ⟨g,e,_,g2,hc⟩:=qdY h.own h0;refine ⟨g,0,e,Nat.zero_le _,g2,qeg nx 0 fun k hk=>?_⟩;have:=hc.sub h.five k (by rw [h.len];exact hk);exact ⟨rows[k]'(by rw [h.len];exact hk),fun j u hu=>(this j u hu).1,(h.row k hk (by rw [h.len];exact hk)).below hb (Nat.le_refl _) hb.size⟩
theorem cP {P:Program} {w:World} {ops:Array Oper} {rest:List Oper} {o:Oper} {a:Act} {Q:Exit→Act→World→Prop} (hgd:o.guard=none) (s x:Operand) (t:TypeId)
  (ho:o.op = .call { callee:= .builtin .append,args:= #[s,x],argTypes:= #[t,t] }) (base:Nat) (e:TypeId) (i:TypeInfo) (z:Value) (size bytes:Nat) (ht:P.underlying t=some (.slice e)) (hi:P.info? e=some i) (hz:i.zero=some z)
  (hsize:i.size=size) (hby:i.bytes=bytes) (hzs:z.cells.size=size) (hsz:0<size) (v:Value) (n:Nat) (xs:List Value) (hs:a.eval s=v) (hown:w.ownsRow base e size v n xs)
  (A:Option Addr) (m c:Nat) (news:List Value) (hx:a.eval x = .slice A m c) (hl:news.length=m*size) (hA:A=none→m=0) (hnews:∀ ad,A=some ad→∀ j u,news[j]? = some u→w.cell? (ad.add j)=some u) (h1:∀ u∈news,u.oneCell'=true)
  (h63:n+m≤maxLen) (hbytes:(n+m)*bytes≤140737488355328) (hbase:base≤w.heap.size)
  (h:∀ v' w',w'.ownsRow base e size v' (n+m) (xs++news)→w.grownBy w' v.ownBlock→wpList P ops Q rest (a.put o.dst v') w'):wpList P ops Q (o::rest) a w:=by
 cases A with
 | some ad=>exact wpList_append_own w hgd s x t ho base e i z size bytes ht hi hz hsize hby hzs hsz v n xs hs hown ad m c news hx hl (hnews ad rfl) h1 h63 hbytes hbase fun v' w' q1 q2 _=>h v' w' q1 q2
 | none=>
  obtain rfl:=hA rfl;have hn:news=[]:=List.eq_nil_of_length_eq_zero (by omega);subst hn;refine wpList_plain hgd fun K hK=>?_;have hrun:(Builtin.append_ #[t,t] o.type #[v,.slice none 0 c]).run P w = .ok v w:=by
   rcases hown.2 with ⟨rfl,rfl⟩ | ⟨g,cap,cur,rfl,_,_,hnc,_⟩
   ·simp [Builtin.append_,run_underlying ht,sizeOf,typeInfo,hi,Builtin.lenOf,Builtin.firstCells]
   ·simp [Builtin.append_,run_underlying ht,sizeOf,typeInfo,hi,Builtin.lenOf,Builtin.firstCells,hnc,storeCells]
  unfold Oper.wp;simp [execOp,ho,resolve,invoke,builtin,hs,hx,hrun,Result.andThen];exact hK _ _ (h v w (by simpa using hown) (World.grownBy.refl w _))
theorem qiy {w wr:World} {A:Option Addr} {ls:List V} (hb:Below w.heap.size w wr) (h:0<ls.length→∃ g o,A=some ⟨g,o,none⟩∧0≤g∧g<w.heap.size∧aN w 0 w.heap.size g o ls) :
  ∃ rows:List (List Value),rows.length=ls.length∧(∀ r∈rows,r.length=5)∧(∀ u∈rows.flatten,u.oneCell'=true)∧(∀ ad,A=some ad→∀ j u,rows.flatten[j]? = some u→wr.cell? (ad.add j)=some u)∧(A=none→ls.length=0)∧
   ∀ k (h1:k<ls.length) (h2:k<rows.length),RdA w 0 w.heap.size ls[k] rows[k]:=by
 by_cases h0:0<ls.length
 ·obtain ⟨g,o,rfl,_,hg,hr⟩:=h h0;obtain ⟨rows,r1,r2,r3,r4⟩:=qk8 hr;refine ⟨rows,r1,r2.1,qdd (s:=5) r3,fun ad e j u hu=>?_,(fun e=>by cases e),r4⟩;injection e with e
  subst e;rw [Addr.add_lit];exact (hb.cell (p:=⟨g,o+j,none⟩) hg).trans (qb4 (by decide) r2 j u hu)
 ·have e:ls=[]:=List.eq_nil_of_length_eq_zero (by omega);subst e;exact ⟨[],rfl,(fun r h=>by cases h),(fun u h=>by simp at h),(fun ad _ j u hu=>by simp at hu),(fun _=>rfl),(fun k h=>by simp at h)⟩
def qjy (most:Int):Prop:=∀ (l:List V) (A:Option Addr) (c:Nat) (w:World),l.length≤40000→aR 4611686018427387904 l→(0<l.length→∃ g o,A=some ⟨g,o,none⟩∧0≤g∧g<w.heap.size∧aN w 0 w.heap.size g o l)→
 Calls Tryz.prog 41 #[.slice A l.length c,.int .i64 most] w (qfg w)
theorem qcS (most:Int) (hm1000:most≤1000) (IH:0<most→qjy (most-1)):qjy most:=by
 intro l A c w hlen hz hA;obtain ⟨i0,hi,hz0,hz1,hz2⟩:=info_parts qck;have I0:=zh hi;have I1:=zh hz0;have I2:=zh hz1;have I3:=zh hz2;have HA:=zh hA;have HZ:=zh hz;have HIH:=zh IH;obtain ⟨n,hn⟩:∃ n,l.length=n:=⟨_,rfl⟩
 have HN:=zh hn;rw [hn] at hlen ⊢;clear hi hz0 hz1 hz2 hA hz hn IH;go_enter Tryz.func41,Tryz.ntmps41;go_wp2_with fail;go_loopw [5,6] (fun s i wr=>∃ k:Nat,i = .int .i64 k∧k≤n∧Aside (∃ (nx:List V) (rows:List (List Value)),nx.length≤20000∧qdf w wr w.heap.size s nx rows)∧Aside (Below w.heap.size w wr)) (fun _ i _=>n-(intOf i).toNat)
 case atStart=>exact ⟨0,rfl,by omega,(show ∃ _ _,_ from ⟨[],[],by simp,qdf.nil _ _ _⟩),(show Below _ _ _ from Below.refl _ _)⟩
 case round=>
  obtain ⟨k,rfl,hk,hnx,hbel⟩:=hrel;by_cases hlt:k<n
  ·have t1:decide ((k:Int)<(n:Int))=true:=zT (by omega);have t2:decide (k<n)=true:=zT hlt;have k0:(0:Int)≤(k:Int):=by omega
   have k1:(k:Int)<(n:Int):=by omega
   have k2:((k:Int)).toNat=k:=by omega
   have hkl:k<l.length:=by rw [HN.out];exact hlt
   obtain ⟨g,o,rfl,_,hg,hr⟩:=HA.out (by omega);obtain ⟨xcs,hxc,hxv⟩:=aN.at_ _ o hr k hkl;obtain ⟨-, -, -,z1,z2, -,z3,z4⟩:=(bL _ l[k]).1 (aU HZ.out (List.getElem_mem hkl));obtain ⟨xA,xc,xB,xd,rfl,hxns,hxL,hxM⟩:=hxv.cells;obtain ⟨nx,rows,hnl,hNx⟩:=hnx.out;have a3:=(hbel.out.cell (p:=⟨g,o+k*5+3,none⟩) hg).trans (hxc 3 _ rfl);have a4:=(hbel.out.cell (p:=⟨g,o+k*5+4,none⟩) hg).trans (hxc 4 _ rfl);have A4:=zh (hxc 4 _ rfl);obtain ⟨rows2,s1,s2,s3,s4,s5,s6⟩:=qiy hbel.out hxL;have HX:=zh (And.intro s1 (And.intro s2 (And.intro s3 (And.intro s4 (And.intro s5 s6)))));have HZ3:=zh z3;have HZ4:=zh z4;have HXM:=zh hxM;have HXN:=zh hxns;have HNX:=zh hNx;obtain ⟨xl,hxl⟩:∃ x,l[k].l.length=x:=⟨_,rfl⟩
   obtain ⟨xm,hxm⟩:∃ x,l[k].ms.length=x:=⟨_,rfl⟩
   have HXL1:=zh hxl;have HXM1:=zh hxm;rw [hxl] at a3 z1;rw [hxm] at a4 A4 z2;rw [hxm] at HXM;obtain ⟨nn,hnn⟩:∃ x,nx.length=x:=⟨_,rfl⟩
   have HNN:=zh hnn;rw [hnn] at hnl;clear hr hxc hxv hnx hNx s1 s2 s3 s4 s5 s6 z3 z4 hxL hxM hxns hxl hxm hnn;by_cases hsum:20000<xl+xm
   ·have t3:decide ((20000:Int)<(xl:Int)+(xm:Int))=true:=zT (by omega);go_wp2_with (go_quiet (fail))
    go_ret;exact ⟨⟨false,rfl⟩,qco hbel.out _⟩
   ·have t3:decide ((20000:Int)<(xl:Int)+(xm:Int))=false:=zF (by omega);go_wp2_with (first | go_quiet (fail) | (at_builtin;refine cP rfl _ _ 22 rfl w.heap.size 25 i0 _ 5 80 Tryz.underlying22 I0.out I1.out I2.out I3.out rfl (by decide) u5 nn rows.flatten rfl (HNN.out▸HNX.out.own) xA xl xc rows2.flatten rfl ?qc1 (fun e=>by rw [←HXL1.out];exact HX.out.2.2.2.2.1 e) HX.out.2.2.2.1 HX.out.2.2.1 ?qc2 ?qc3 hbel.out.size ?_))
    case qc1=>rw [qaD 5 rows2 HX.out.2.1,HX.out.1,HXL1.out]
    case qc2=>unfold maxLen;omega
    case qc3=>omega
    intro s1 w1 hown1 hgrow1;have hs0:w.heap.size≤wr.heap.size:=hbel.out.size;have HB1:=zh (show Below w.heap.size w w1 from Below.grown (qco hbel.out _) hgrow1 hs0 (fun g hg=>(HNX.out.own.lt g hg).1));have HN1:=zh (HNX.out.app (w':=w1) (s':=s1) HX.out.1 HX.out.2.1 HZ3.out HX.out.2.2.2.2.2 (by rw [HNN.out,HXL1.out];exact hown1));have HLE:=zh (show (nx++l[k].l).length=nn+xl by rw [List.length_append,HNN.out,HXL1.out]);clear hown1 hgrow1 a3 a4 hbel HNX HX hs0;have a4:=(HB1.out.cell (p:=⟨g,o+k*5+4,none⟩) hg).trans A4.out;go_wp2_with fail;go_loopw [5,7] (fun s j wq=>∃ jj:Nat,j = .int .i64 jj∧jj≤xm∧Aside (∃ (nx':List V) (rows':List (List Value)),nx'.length=nn+xl+jj∧qdf w wq w.heap.size s nx' rows')∧Aside (Below w.heap.size w wq)) (fun _ j _=>xm-(intOf j).toNat)
    case atStart=>exact ⟨0,rfl,by omega,(show ∃ _ _,_ from ⟨_,_,HLE.out,HN1.out⟩),(show Below _ _ _ from HB1.out)⟩
    case round=>
     obtain ⟨jj,rfl,hj,hnx2,hbq⟩:=hrel;clear a4;have a4:=(hbq.out.cell (p:=⟨g,o+k*5+4,none⟩) hg).trans A4.out;obtain ⟨nx',rows',hnl',hNx'⟩:=hnx2.out;have HNQ:=zh hNx';have HNL:=zh hnl';clear hnx2 hNx' hnl';by_cases hlt2:jj<xm
     ·have t4:decide ((jj:Int)<(xm:Int))=true:=zT (by omega);have t5:decide (jj<xm)=true:=zT hlt2;have j0:(0:Int)≤(jj:Int):=by omega
      have j1:(jj:Int)<(xm:Int):=by omega
      have j2:((jj:Int)).toNat=jj:=by omega
      obtain ⟨g2,o2,rfl,_,hg2,hr2⟩:=HXM.out (by omega);have hj1:jj<l[k].ms.length:=by rw [HXM1.out];exact hlt2
      have hj2:jj<l[k].ns.length:=by rw [HXN.out];exact hj1
      obtain ⟨hyn,ycs,hyc,hyv⟩:=aL.at_ _ _ o2 hr2 jj hj1 hj2;have hys:szA 4611686018427387904 l[k].ms[jj]:=aU HZ4.out (List.getElem_mem hj1);have HYS:=zh hys;have HYV:=zh hyv;obtain ⟨yA,yc,yB,yd,rfl, -⟩:=hyv.cells;have b0:=(hbq.out.cell (p:=⟨g2,o2+jj*6+1,none⟩) hg2).trans (hyc 0 _ rfl);have b1:=(hbq.out.cell (p:=⟨g2,o2+jj*6+2,none⟩) hg2).trans (hyc 1 _ rfl);have b2:=(hbq.out.cell (p:=⟨g2,o2+jj*6+3,none⟩) hg2).trans (hyc 2 _ rfl);have b3:=(hbq.out.cell (p:=⟨g2,o2+jj*6+4,none⟩) hg2).trans (hyc 3 _ rfl);have b4:=(hbq.out.cell (p:=⟨g2,o2+jj*6+5,none⟩) hg2).trans (hyc 4 _ rfl);generalize l[k].ms[jj].k=yk at *;generalize l[k].ms[jj].n=yn at *;generalize ae l[k].ms[jj].s=ys at *;generalize l[k].ms[jj].l.length=yl at *;generalize l[k].ms[jj].ms.length=ym at *;have NEW:∀ j u,[Value.int .i64 yk,.int .i64 yn,.string ys,.slice yA yl yc,.slice yB ym yd][j]? = some u→(wr.alloc (.cells #[.int .i64 yk,.int .i64 yn,.string ys,.slice yA yl yc,.slice yB ym yd] 25)).cell? ((⟨wr.heap.size,0,none⟩:Addr).add j)=some u:=fun j u hu=>by
       rw [Addr.add_lit,Nat.zero_add];unfold World.cell?;rw [am];simpa using hu
      have HNEW:=zh NEW;have hsq:w.heap.size≤wr.heap.size:=hbq.out.size;clear NEW hyn hyc hyv hys hr2;go_wp2_with (at_builtin;refine wpList_append_own _ rfl _ _ 22 rfl w.heap.size 25 i0 _ 5 80 Tryz.underlying22 I0.out I1.out I2.out I3.out rfl (by decide) u5 nx'.length rows'.flatten rfl (HNQ.out.own.alloc _) ⟨wr.heap.size,0,none⟩ 1 1 [Value.int .i64 yk,.int .i64 yn,.string ys,.slice yA yl yc,.slice yB ym yd] rfl rfl HNEW.out ?qd3 ?qd4 ?qd5 ?qd6 ?_)
      case qd3=>simp [Value.oneCell']
      case qd4=>have:=HNL.out;unfold maxLen;omega
      case qd5=>have:=HNL.out;omega
      case qd6=>simp;omega
      intro s2 w2 hown2 hgrow2 _;have HB2:=zh (show Below w.heap.size w w2 from Below.grown (hbq.out.alloc hbq.out.size _) hgrow2 (by rw [aG];omega) (fun g hg=>(HNQ.out.own.lt g hg).1));have HN2:=zh (HNQ.out.app (w':=w2) (s':=s2) (ls:=[l[k].ms[jj]]) (rows2:=[[Value.int .i64 yk,.int .i64 yn,.string ys,.slice yA yl yc,.slice yB ym yd]]) rfl (by simp) (by rw [aR,aR];exact ⟨HYS.out,trivial⟩) (fun q h1 h2=>by
       have hq0:q=0:=by simp at h1;exact h1
       subst hq0;exact HYV.out) (by simpa using hown2))
      have HL2:=zh (show (nx'++[l[k].ms[jj]]).length=nn+xl+(jj+1) by rw [List.length_append,HNL.out];rfl);clear hown2 hgrow2 hsq;go_wp2;go_roundw
      case rel=>exact ⟨jj+1,by go_num,by omega,(show ∃ _ _,_ from ⟨_,_,HL2.out,HN2.out⟩),(show Below _ _ _ from HB2.out)⟩
      case measure=>simp [intOf];omega
     ·have t4:decide ((jj:Int)<(xm:Int))=false:=zF (by omega);have t5:decide (jj<xm)=false:=zF hlt2;obtain ⟨A',c',rfl⟩:=ct HNQ.out.own;obtain ⟨q,hq⟩:∃ q,nx'.length=q:=⟨_,rfl⟩
      have HQ:=zh hq;have hqb:q≤40000:=by rw [←hq,HNL.out];omega
      rw [hq];clear hq;by_cases hbig:20000<q
      ·have t6:decide ((20000:Int)<(q:Int))=true:=zT (by omega);go_wp2;go_ret;exact ⟨⟨false,rfl⟩,hbq.out⟩
      ·have t6:decide ((20000:Int)<(q:Int))=false:=zF (by omega);go_wp2;go_roundw
       case rel=>exact ⟨k+1,by go_num,by omega,(show ∃ _ _,_ from ⟨nx',rows',by rw [HQ.out];omega,by have:=HNQ.out;rw [HQ.out] at this;exact this⟩),(show Below _ _ _ from hbq.out)⟩
       case measure=>simp [intOf];omega
  ·have t1:decide ((k:Int)<(n:Int))=false:=zF (by omega);have t2:decide (k<n)=false:=zF hlt;obtain ⟨nx,rows,hnl,hNx⟩:=hnx.out;obtain ⟨A',c',rfl⟩:=ct hNx.own;have HRD:=zh (hNx.read hbel.out);have HSZ:=zh hNx.sz;obtain ⟨q,hq⟩:∃ q,nx.length=q:=⟨_,rfl⟩
   have HQ:=zh hq;rw [hq] at hnl ⊢;clear hnx hNx hq;by_cases h0:q=0
   ·subst h0;go_wp2;go_ret;exact ⟨⟨true,rfl⟩,hbel.out⟩
   ·have t6:decide ((q:Int)=0)=false:=zF (by omega);by_cases hmo:0<most
    ·have t7:decide ((0:Int)<most)=true:=zT hmo;have HCL:=zh (HIH.out hmo nx A' c' wr (by rw [HQ.out];omega) HSZ.out HRD.out);rw [HQ.out] at HCL;go_wp2_with fail;refine HCL.out.mono ?_;rintro e w2 ⟨⟨b,rfl⟩,hb2⟩;have HB2:=zh (hbel.out.trans (hb2.mono hbel.out.size));clear hb2;cases b
     ·go_wp2;go_ret;exact ⟨⟨_,rfl⟩,HB2.out⟩
     ·go_wp2;go_ret;exact ⟨⟨true,rfl⟩,HB2.out⟩
    ·have t7:decide ((0:Int)<most)=false:=zF hmo;go_wp2;go_ret;exact ⟨⟨_,rfl⟩,hbel.out⟩
theorem qhY (t:Nat):∀ most:Int,most≤t→most≤1000→qjy most:=by
 induction t with
 | zero=>exact fun most h k=>qcS most k fun h0=>by omega
 | succ t ih=>exact fun most h k=>qcS most k fun h0=>ih (most-1) (by omega) (by omega)
theorem qjJ {B:Nat} {v:V} (h:szA B v):aR B [v]:=by rw [aR,aR];exact ⟨h,trivial⟩
theorem qis (v:V) (cs:List Value) (w:World) (hz:szA 4611686018427387904 v) (hv:RdA w 0 w.heap.size v cs) :
  Calls Tryz.prog 23 #[.agg cs.toArray,.int .i64 100] w (qfg w):=by
 obtain ⟨-, -, -,z1,z2, -, -, -⟩:=(bL _ v).1 hz;have HV:=zh hv;have HZ:=zh (qjJ hz);obtain ⟨A0,c0,A20,c20,rfl, -⟩:=hv.cells;clear hz hv;generalize v.k=k at *;generalize v.n=n at *;generalize ae v.s=S at *;generalize v.l.length=l at *;generalize v.ms.length=m at *;obtain ⟨W0,hW0⟩:∃ W0,W0=w.alloc (.cells #[.int .i64 k,.int .i64 n,.string S,.slice A0 l c0,.slice A20 m c20] 25):=⟨_,rfl⟩
 have HB0:=zh (show Below w.heap.size w W0 by rw [hW0];exact (Below.refl _ _).alloc (Nat.le_refl _) _);have HW0:=zh hW0;obtain ⟨W1,hW1⟩:∃ W1,W1=W0.alloc (.cells #[.int .i64 k,.int .i64 n,.string S,.slice A0 l c0,.slice A20 m c20] 25):=⟨_,rfl⟩
 have HB1:=zh (show Below w.heap.size w W1 by rw [hW1];exact HB0.out.alloc HB0.out.size _);have hr1:W1.heap[W0.heap.size]? = some (.cells #[.int .i64 k,.int .i64 n,.string S,.slice A0 l c0,.slice A20 m c20] 25 (0,0)):=by rw [hW1];exact am _ _
 have hs1:W1.heap.size=W0.heap.size+1:=by rw [hW1,aG]
 have hs0:W0.heap.size=w.heap.size+1:=by rw [hW0,aG]
 have HCL:=zh (qhY 100 100 (by omega) (by omega) [v] (some ⟨W0.heap.size,0,none⟩) 1 W1 (by simp) HZ.out (fun _=>⟨W0.heap.size,0,rfl,Nat.zero_le _,by omega,qeg _ _ fun q hq=>by
  have hq0:q=0:=by simp at hq;exact hq
  subst hq0;exact ⟨_,fun j u hu=>by
   match j,hu with
   | 0,hu | 1,hu | 2,hu | 3,hu | 4,hu=>simp only [World.cell?,hr1];exact hu
   | n+5,hu=>simp at hu,HV.out.below HB1.out (Nat.le_refl _) HB1.out.size⟩⟩))
 have HW1:=zh (show W1=_ from by rw [hW1,hW0]);rw [hs0] at HCL;clear hW0 hW1 hr1 hs1 hs0;by_cases hl:10000<l
 ·have t1:decide ((10000:Int)<(l:Int))=true:=zT (by omega);go_enter Tryz.func23,Tryz.ntmps23;go_wp2;go_ret;exact ⟨⟨_,rfl⟩,(Below.refl _ _).alloc (Nat.le_refl _) _⟩
 ·have t1:decide ((10000:Int)<(l:Int))=false:=zF (by omega);by_cases hm:10000<m
  ·have t2:decide ((10000:Int)<(m:Int))=true:=zT (by omega);go_enter Tryz.func23,Tryz.ntmps23;go_wp2;go_ret;exact ⟨⟨_,rfl⟩,(Below.refl _ _).alloc (Nat.le_refl _) _⟩
  ·have t2:decide ((10000:Int)<(m:Int))=false:=zF (by omega);by_cases hs:0<l+m
   ·have t3:decide ((0:Int)<(l:Int)+(m:Int))=true:=zT (by omega);go_enter Tryz.func23,Tryz.ntmps23;go_wp2_with fail;rw [←HW1.out];refine HCL.out.mono ?_;rintro e w2 ⟨⟨b,rfl⟩,hb2⟩;have HB2:=zh (HB1.out.trans (hb2.mono HB1.out.size));clear hb2;go_wp2;go_ret;exact ⟨⟨_,rfl⟩,HB2.out⟩
   ·have t3:decide ((0:Int)<(l:Int)+(m:Int))=false:=zF (by omega);go_enter Tryz.func23,Tryz.ntmps23;go_wp2_with fail;rw [←HW1.out];refine HCL.out.mono ?_;rintro e w2 ⟨⟨b,rfl⟩,hb2⟩;have HB2:=zh (HB1.out.trans (hb2.mono HB1.out.size));clear hb2;go_wp2;go_ret;exact ⟨⟨_,rfl⟩,HB2.out⟩
end Tr
namespace Po
open Go.Proofs Go.RowKit Go.Lib Utf Sc Re Tr
def Lc (c:Nat) (z most:Int):Prop:=1≤z∧z≤most+1∧(z≤most→(c:Int)≤z)
theorem Lc.start {most:Int} {l:List V} (h:0≤most):Lc (1+aK (l.take 0)) 1 most:=⟨by omega,by omega,fun _=>by simp [aK]⟩
theorem Lc.step {c cx c':Nat} {z most:Int} (h:Lc c z most) (e:c'=c+cx) (hz:z≤most):∀ mo,mo=most-z→∀ y,Lc cx y mo→Lc c' (z+y) most:=fun mo hm y hy=>by
 obtain ⟨h1,h2,h3⟩:=h;obtain ⟨k1,k2,k3⟩:=hy;exact ⟨by omega,by omega,fun hh=>by have:=h3 hz;have:=k3 (by omega);omega⟩
theorem Lc.fin {c c':Nat} {z most:Int} (h:Lc c z most) (e:z≤most→c'=c):Lc c' z most:=⟨h.1,h.2.1,fun hh=>by rw [e hh];exact h.2.2 hh⟩
theorem qdQ:∀ a b:List V,aK (a++b)=aK a+aK b
 | [],b=>by simp [aK]
 | v::r,b=>by rw [List.cons_append,aK,aK,qdQ r b];omega
theorem qjI {l:List V} {k:Nat} (h:k<l.length):1+aK (l.take (k+1))=1+aK (l.take k)+cnt l[k]:=by
 rw [List.take_succ_eq_append_getElem h,qdQ];simp [aK];omega
theorem qiQ {c:Nat} {l:List V} {k:Nat} (h:k<l.length):1+c+aK (l.take (k+1))=1+c+aK (l.take k)+cnt l[k]:=by
 have:=qjI h;omega
def qbf (v:V) (most:Int) (w:World) (e:Ending) (w':World):Prop:=(∃ x:Int,e = .returned (.int .i64 x)∧Lc (cnt v) x most)∧Below w.heap.size w w'
theorem qhD (h:Nat):∀ (v:V) (cs:List Value) (most:Int) (w:World),0≤most∧most≤1000000→ht v≤h→szA 4611686018427387904 v→RdA w 0 w.heap.size v cs→Calls Tryz.prog 24 #[.agg cs.toArray,.int .i64 most] w (qbf v most w):=by
 induction h with
 | zero=>intro v cs most w hm01 hh;rw [qam] at hh;omega
 | succ h ih=>
  intro v cs most w hm01 hh hz hv;have HM0:=zh hm01.1;have HM1:=zh hm01.2;have hht:=qam v;obtain ⟨-, -, -,z1,z2, -,z3,z4⟩:=(bL _ v).1 hz;have IHL:=zh (show ∀ x∈v.l,∀ (cx:List Value) (mo:Int) (W:World),0≤mo∧mo≤1000000→RdA W 0 W.heap.size x cx→Calls Tryz.prog 24 #[.agg cx.toArray,.int .i64 mo] W (qbf x mo W) from fun x hx cx mo W h01 hr=>ih x cx mo W h01 (by have:=bt hx;omega) (aU z3 hx) hr);have IHM:=zh (show ∀ x∈v.ms,∀ (cx:List Value) (mo:Int) (W:World),0≤mo∧mo≤1000000→RdA W 0 W.heap.size x cx→Calls Tryz.prog 24 #[.agg cx.toArray,.int .i64 mo] W (qbf x mo W) from fun x hx cx mo W h01 hr=>ih x cx mo W h01 (by have:=bt hx;omega) (aU z4 hx) hr);obtain ⟨A0,c0,A20,c20,rfl,hns,hL,hM⟩:=hv.cells;have HL:=zh hL;have HM:=zh hM;have HNS:=zh hns;obtain ⟨l,hl⟩:∃ x,v.l.length=x:=⟨_,rfl⟩
  obtain ⟨m,hm⟩:∃ x,v.ms.length=x:=⟨_,rfl⟩
  have HN1:=zh hl;have HN2:=zh hm;rw [hl] at z1 HL ⊢;rw [hm] at z2 HM ⊢;clear ih hh hht hm01 z3 z4 hz hv hL hM hns hl hm;generalize v.k=k;generalize v.n=n;generalize ae v.s=S;obtain ⟨W0,hW0⟩:∃ W0,W0=w.alloc (.cells #[.int .i64 k,.int .i64 n,.string S,.slice A0 l c0,.slice A20 m c20] 25):=⟨_,rfl⟩
  have HB0:=zh (show Below w.heap.size w W0 by rw [hW0];exact (Below.refl _ _).alloc (Nat.le_refl _) _);have HS0:=zh (show W0.heap.size=w.heap.size+1 by rw [hW0,aG]);have HR0:=zh (show W0.heap[w.heap.size]? = some (.cells #[.int .i64 k,.int .i64 n,.string S,.slice A0 l c0,.slice A20 m c20] 25 (0,0)) by rw [hW0];exact am _ _);have HBW0:=zh (Below.refl W0.heap.size W0);have HW0:=zh hW0;clear hW0;go_enter Tryz.func24,Tryz.ntmps24;go_wp2_with fail;rw [←HW0.out];go_loopw [5,6] (fun s i wr=>∃ (kk:Nat) (z:Int),s = .int .i64 z∧i = .int .i64 kk∧kk≤l∧Lc (1+aK (v.l.take kk)) z most∧Aside (Below W0.heap.size W0 wr)) (fun _ i _=>l-(intOf i).toNat)
  case atStart=>exact ⟨0,1,rfl,rfl,by omega,Lc.start HM0.out,(show Below _ _ _ from Below.refl _ _)⟩
  case round=>
   obtain ⟨kk,z,rfl,rfl,hk,hlc,hbel⟩:=hrel;have HLC0:=zh hlc;obtain ⟨z1',z2', -⟩:=hlc;have hb0:Below W0.heap.size W0 wr:=HBW0.out.trans hbel.out;have HBR:=zh hb0;have hwb:Below w.heap.size w wr:=HB0.out.trans (hb0.mono HB0.out.size);have HWB:=zh hwb;obtain ⟨⟨p0,p1,p2,p3,p4⟩, -⟩:=ai ((hb0.block w.heap.size (by rw [HS0.out];omega)).trans HR0.out);clear hb0;by_cases hlt:kk<l
   ·have t1:decide ((kk:Int)<(l:Int))=true:=zT (by omega);have t2:decide (kk<l)=true:=zT hlt;have k0:(0:Int)≤(kk:Int):=by omega
    have k1:(kk:Int)<(l:Int):=by omega
    have k2:((kk:Int)).toNat=kk:=by omega
    by_cases hzm:z≤most
    ·have t3:decide (z≤most)=true:=zT hzm;have hkl:kk<v.l.length:=by rw [HN1.out];exact hlt
     obtain ⟨g,o,rfl,_,hg,hr⟩:=HL.out (by omega);obtain ⟨xcs,hxc,hxv⟩:=aN.at_ _ o hr kk hkl;have hmem:v.l[kk]∈v.l:=List.getElem_mem hkl;have HCP:=zh (fun mo (hmo:mo=most-z)=>IHL.out _ hmem xcs mo wr (by have:=HM1.out;omega) (hxv.below hwb (Nat.le_refl _) hwb.size));have HST:=zh (HLC0.out.step (qjI hkl) hzm);have hb0:=HM0.out;have hb1:=HM1.out;obtain ⟨xA,xc,xB,xd,rfl, -⟩:=hxv.cells;have a0:=(hwb.cell (p:=⟨g,o+kk*5,none⟩) hg).trans (hxc 0 _ rfl);have a1:=(hwb.cell (p:=⟨g,o+kk*5+1,none⟩) hg).trans (hxc 1 _ rfl);have a2:=(hwb.cell (p:=⟨g,o+kk*5+2,none⟩) hg).trans (hxc 2 _ rfl);have a3:=(hwb.cell (p:=⟨g,o+kk*5+3,none⟩) hg).trans (hxc 3 _ rfl);have a4:=(hwb.cell (p:=⟨g,o+kk*5+4,none⟩) hg).trans (hxc 4 _ rfl);generalize v.l[kk].k=xk at *;generalize v.l[kk].n=xn at *;generalize ae v.l[kk].s=xs at *;generalize v.l[kk].l.length=xl at *;generalize v.l[kk].ms.length=xm at *;clear hxv hxc hmem hr hwb;go_wp2_with fail;refine (HCP.out _ (by first | rfl | omega | go_num)).mono ?_;rintro e w5 ⟨⟨y,rfl,hy⟩,hb5⟩;have HLN:=zh (HST.out _ (by first | rfl | omega | go_num) y hy);obtain ⟨y1,y2, -⟩:=HLN.out;have HB5:=zh (show Below W0.heap.size W0 w5 from hbel.out.trans (hb5.mono HBR.out.size));clear hb5 HCP;go_wp2;go_roundw
     case rel=>exact ⟨kk+1,z+y,by go_num,by go_num,by omega,HLN.out,(show Below _ _ _ from HB5.out)⟩
     case measure=>simp [intOf];omega
    ·have t3:decide (z≤most)=false:=zF hzm;have HLC:=zh (HLC0.out.fin (c':=1+aK v.l+aK (v.ms.take 0)) (fun hh=>by first | exact absurd hh hzm | (rw [List.take_of_length_le (l:=v.l) (by rw [HN1.out];omega)];simp [aK])));obtain ⟨w2,hw2⟩:∃ w2,w2=wr:=⟨_,rfl⟩
     rw [←hw2] at p0 p1 p2 p3 p4 hbel HBR ⊢;have HBw2:=zh HBR.out;clear hw2 hbel HBR HWB hwb;go_wp2_with fail;go_loopw [5,7] (fun s i wr=>∃ (kk:Nat) (z:Int),s = .int .i64 z∧i = .int .i64 kk∧kk≤m∧Lc (1+aK v.l+aK (v.ms.take kk)) z most∧Aside (Below W0.heap.size w2 wr)) (fun _ i _=>m-(intOf i).toNat)
     case atStart=>exact ⟨0,z,rfl,rfl,by omega,HLC.out,(show Below _ _ _ from Below.refl _ _)⟩
     case round=>
      obtain ⟨kk,z,rfl,rfl,hk,hlc,hbel⟩:=hrel;have HLC0:=zh hlc;obtain ⟨z1',z2', -⟩:=hlc;have hb0:Below W0.heap.size W0 wr:=HBw2.out.trans hbel.out;have HBR:=zh hb0;have hwb:Below w.heap.size w wr:=HB0.out.trans (hb0.mono HB0.out.size);have HWB:=zh hwb;obtain ⟨⟨p0,p1,p2,p3,p4⟩, -⟩:=ai ((hb0.block w.heap.size (by rw [HS0.out];omega)).trans HR0.out);clear hb0;by_cases hlt:kk<m
      ·have t1:decide ((kk:Int)<(m:Int))=true:=zT (by omega);have t2:decide (kk<m)=true:=zT hlt;have k0:(0:Int)≤(kk:Int):=by omega
       have k1:(kk:Int)<(m:Int):=by omega
       have k2:((kk:Int)).toNat=kk:=by omega
       by_cases hzm:z≤most
       ·have t3:decide (z≤most)=true:=zT hzm;have hkl:kk<v.ms.length:=by rw [HN2.out];exact hlt
        have hkn:kk<v.ns.length:=by rw [HNS.out];exact hkl
        obtain ⟨g,o,rfl,_,hg,hr⟩:=HM.out (by omega);obtain ⟨hxn,xcs,hxc,hxv⟩:=aL.at_ _ _ o hr kk hkl hkn;have hmem:v.ms[kk]∈v.ms:=List.getElem_mem hkl;have HCP:=zh (fun mo (hmo:mo=most-z)=>IHM.out _ hmem xcs mo wr (by have:=HM1.out;omega) (hxv.below hwb (Nat.le_refl _) hwb.size));have HST:=zh (HLC0.out.step (qiQ hkl) hzm);have hb0:=HM0.out;have hb1:=HM1.out;obtain ⟨xA,xc,xB,xd,rfl, -⟩:=hxv.cells;have a0:=(hwb.cell (p:=⟨g,o+kk*6+1,none⟩) hg).trans (hxc 0 _ rfl);have a1:=(hwb.cell (p:=⟨g,o+kk*6+2,none⟩) hg).trans (hxc 1 _ rfl);have a2:=(hwb.cell (p:=⟨g,o+kk*6+3,none⟩) hg).trans (hxc 2 _ rfl);have a3:=(hwb.cell (p:=⟨g,o+kk*6+4,none⟩) hg).trans (hxc 3 _ rfl);have a4:=(hwb.cell (p:=⟨g,o+kk*6+5,none⟩) hg).trans (hxc 4 _ rfl);generalize v.ms[kk].k=xk at *;generalize v.ms[kk].n=xn at *;generalize ae v.ms[kk].s=xs at *;generalize v.ms[kk].l.length=xl at *;generalize v.ms[kk].ms.length=xm at *;clear hxv hxc hmem hr hwb hxn;go_wp2_with fail;refine (HCP.out _ (by first | rfl | omega | go_num)).mono ?_;rintro e w5 ⟨⟨y,rfl,hy⟩,hb5⟩;have HLN:=zh (HST.out _ (by first | rfl | omega | go_num) y hy);obtain ⟨y1,y2, -⟩:=HLN.out;have HB5:=zh (show Below W0.heap.size w2 w5 from hbel.out.trans (hb5.mono HBR.out.size));clear hb5 HCP;go_wp2;go_roundw
        case rel=>exact ⟨kk+1,z+y,by go_num,by go_num,by omega,HLN.out,(show Below _ _ _ from HB5.out)⟩
        case measure=>simp [intOf];omega
       ·have t3:decide (z≤most)=false:=zF hzm;have HFI:=zh (HLC0.out.fin (c':=cnt v) (fun hh=>by first | exact absurd hh hzm | (rw [qcA,List.take_of_length_le (by rw [HN2.out];omega)])));go_wp2;go_ret;exact ⟨⟨z,rfl,HFI.out⟩,HWB.out⟩
      ·have t1:decide ((kk:Int)<(m:Int))=false:=zF (by omega);have t2:decide (kk<m)=false:=zF hlt;have HFI:=zh (HLC0.out.fin (c':=cnt v) (fun hh=>by first | exact absurd hh hzm | (rw [qcA,List.take_of_length_le (by rw [HN2.out];omega)])));go_wp2;go_ret;exact ⟨⟨z,rfl,HFI.out⟩,HWB.out⟩
   ·have t1:decide ((kk:Int)<(l:Int))=false:=zF (by omega);have t2:decide (kk<l)=false:=zF hlt;have HLC:=zh (HLC0.out.fin (c':=1+aK v.l+aK (v.ms.take 0)) (fun hh=>by first | exact absurd hh hzm | (rw [List.take_of_length_le (l:=v.l) (by rw [HN1.out];omega)];simp [aK])));obtain ⟨w2,hw2⟩:∃ w2,w2=wr:=⟨_,rfl⟩
    rw [←hw2] at p0 p1 p2 p3 p4 hbel HBR ⊢;have HBw2:=zh HBR.out;clear hw2 hbel HBR HWB hwb;go_wp2_with fail;go_loopw [5,7] (fun s i wr=>∃ (kk:Nat) (z:Int),s = .int .i64 z∧i = .int .i64 kk∧kk≤m∧Lc (1+aK v.l+aK (v.ms.take kk)) z most∧Aside (Below W0.heap.size w2 wr)) (fun _ i _=>m-(intOf i).toNat)
    case atStart=>exact ⟨0,z,rfl,rfl,by omega,HLC.out,(show Below _ _ _ from Below.refl _ _)⟩
    case round=>
     obtain ⟨kk,z,rfl,rfl,hk,hlc,hbel⟩:=hrel;have HLC0:=zh hlc;obtain ⟨z1',z2', -⟩:=hlc;have hb0:Below W0.heap.size W0 wr:=HBw2.out.trans hbel.out;have HBR:=zh hb0;have hwb:Below w.heap.size w wr:=HB0.out.trans (hb0.mono HB0.out.size);have HWB:=zh hwb;obtain ⟨⟨p0,p1,p2,p3,p4⟩, -⟩:=ai ((hb0.block w.heap.size (by rw [HS0.out];omega)).trans HR0.out);clear hb0;by_cases hlt:kk<m
     ·have t1:decide ((kk:Int)<(m:Int))=true:=zT (by omega);have t2:decide (kk<m)=true:=zT hlt;have k0:(0:Int)≤(kk:Int):=by omega
      have k1:(kk:Int)<(m:Int):=by omega
      have k2:((kk:Int)).toNat=kk:=by omega
      by_cases hzm:z≤most
      ·have t3:decide (z≤most)=true:=zT hzm;have hkl:kk<v.ms.length:=by rw [HN2.out];exact hlt
       have hkn:kk<v.ns.length:=by rw [HNS.out];exact hkl
       obtain ⟨g,o,rfl,_,hg,hr⟩:=HM.out (by omega);obtain ⟨hxn,xcs,hxc,hxv⟩:=aL.at_ _ _ o hr kk hkl hkn;have hmem:v.ms[kk]∈v.ms:=List.getElem_mem hkl;have HCP:=zh (fun mo (hmo:mo=most-z)=>IHM.out _ hmem xcs mo wr (by have:=HM1.out;omega) (hxv.below hwb (Nat.le_refl _) hwb.size));have HST:=zh (HLC0.out.step (qiQ hkl) hzm);have hb0:=HM0.out;have hb1:=HM1.out;obtain ⟨xA,xc,xB,xd,rfl, -⟩:=hxv.cells;have a0:=(hwb.cell (p:=⟨g,o+kk*6+1,none⟩) hg).trans (hxc 0 _ rfl);have a1:=(hwb.cell (p:=⟨g,o+kk*6+2,none⟩) hg).trans (hxc 1 _ rfl);have a2:=(hwb.cell (p:=⟨g,o+kk*6+3,none⟩) hg).trans (hxc 2 _ rfl);have a3:=(hwb.cell (p:=⟨g,o+kk*6+4,none⟩) hg).trans (hxc 3 _ rfl);have a4:=(hwb.cell (p:=⟨g,o+kk*6+5,none⟩) hg).trans (hxc 4 _ rfl);generalize v.ms[kk].k=xk at *;generalize v.ms[kk].n=xn at *;generalize ae v.ms[kk].s=xs at *;generalize v.ms[kk].l.length=xl at *;generalize v.ms[kk].ms.length=xm at *;clear hxv hxc hmem hr hwb hxn;go_wp2_with fail;refine (HCP.out _ (by first | rfl | omega | go_num)).mono ?_;rintro e w5 ⟨⟨y,rfl,hy⟩,hb5⟩;have HLN:=zh (HST.out _ (by first | rfl | omega | go_num) y hy);obtain ⟨y1,y2, -⟩:=HLN.out;have HB5:=zh (show Below W0.heap.size w2 w5 from hbel.out.trans (hb5.mono HBR.out.size));clear hb5 HCP;go_wp2;go_roundw
       case rel=>exact ⟨kk+1,z+y,by go_num,by go_num,by omega,HLN.out,(show Below _ _ _ from HB5.out)⟩
       case measure=>simp [intOf];omega
      ·have t3:decide (z≤most)=false:=zF hzm;have HFI:=zh (HLC0.out.fin (c':=cnt v) (fun hh=>by first | exact absurd hh hzm | (rw [qcA,List.take_of_length_le (by rw [HN2.out];omega)])));go_wp2;go_ret;exact ⟨⟨z,rfl,HFI.out⟩,HWB.out⟩
     ·have t1:decide ((kk:Int)<(m:Int))=false:=zF (by omega);have t2:decide (kk<m)=false:=zF hlt;have HFI:=zh (HLC0.out.fin (c':=cnt v) (fun hh=>by first | exact absurd hh hzm | (rw [qcA,List.take_of_length_le (by rw [HN2.out];omega)])));go_wp2;go_ret;exact ⟨⟨z,rfl,HFI.out⟩,HWB.out⟩
def qie (v:V) (most:Int) (w:World) (e:Ending) (w':World):Prop:=(∃ b,e = .returned (.bool b)∧(b=true→(cnt v:Int)≤most))∧Below w.heap.size w w'
theorem qlk (v:V) (cs:List Value) (most:Int) (hmost:0≤most∧most≤1000000) (w:World) (hz:szA 4611686018427387904 v) (hv:RdA w 0 w.heap.size v cs) :
  Calls Tryz.prog 9 #[.agg cs.toArray,.int .i64 most] w (qie v most w):=by
 have HD:=zh (fun (W:World) (hW:Below w.heap.size w W)=>qis v cs W hz (hv.below hW (Nat.le_refl _) hW.size));have HC:=zh (fun (W:World) (hW:Below w.heap.size w W)=>qhD (ht v) v cs most W hmost (Nat.le_refl _) hz (hv.below hW (Nat.le_refl _) hW.size));have HO:=zh (fun (W:World) (hW:Below w.heap.size w W)=>qkk (ht v) v cs W (Nat.le_refl _) hz (hv.below hW (Nat.le_refl _) hW.size));obtain ⟨A0,c0,A20,c20,rfl, -⟩:=hv.cells;clear hz hv hmost;have HCV:=zh (show ∀ x:Int,Lc (cnt v) x most→x≤most→(cnt v:Int)≤most from fun x h h2=>Int.le_trans (h.2.2 h2) h2);generalize v.k=k at *;generalize v.n=n at *;generalize ae v.s=S at *;generalize v.l.length=l at *;generalize v.ms.length=m at *;obtain ⟨W0,hW0⟩:∃ W0,W0=w.alloc (.cells #[.int .i64 k,.int .i64 n,.string S,.slice A0 l c0,.slice A20 m c20] 25):=⟨_,rfl⟩
 have HB0:=zh (show Below w.heap.size w W0 by rw [hW0];exact (Below.refl _ _).alloc (Nat.le_refl _) _);have HS0:=zh (show W0.heap.size=w.heap.size+1 by rw [hW0,aG]);have HR0:=zh (show W0.heap[w.heap.size]? = some (.cells #[.int .i64 k,.int .i64 n,.string S,.slice A0 l c0,.slice A20 m c20] 25 (0,0)) by rw [hW0];exact am _ _);have HW0:=zh hW0;clear hW0;go_enter Tryz.func9,Tryz.ntmps9;go_wp2_with fail;rw [←HW0.out];refine (HD.out _ HB0.out).mono ?_;rintro e w1 ⟨⟨b,rfl⟩,hb1⟩;have HB1:=zh (HB0.out.trans (hb1.mono HB0.out.size));have HS1:=zh (show w.heap.size<w1.heap.size by have:=hb1.size;rw [HS0.out] at this;omega);have hr1:=(hb1.block w.heap.size (by rw [HS0.out];omega)).trans HR0.out;have HR1:=zh hr1;obtain ⟨⟨p0,p1,p2,p3,p4⟩, -⟩:=ai hr1;clear hb1 hr1;cases b
 ·go_wp2;go_ret;exact ⟨⟨_,rfl,fun h=>by cases h⟩,HB1.out⟩
 ·go_wp2_with fail;refine (HC.out _ HB1.out).mono ?_;rintro e w2 ⟨⟨x,rfl,hxc⟩,hb2⟩;have HXC:=zh hxc;clear hxc;have HB2:=zh (HB1.out.trans (hb2.mono HB1.out.size));have hr2:=(hb2.block w.heap.size HS1.out).trans HR1.out;clear p0 p1 p2 p3 p4;obtain ⟨⟨p0,p1,p2,p3,p4⟩, -⟩:=ai hr2;clear hb2 hr2;by_cases hx:x≤most
  ·have t1:decide (x≤most)=true:=zT hx;have HFE:=zh (HCV.out x HXC.out hx);go_wp2_with fail;refine (HO.out _ HB2.out).mono ?_;rintro e w3 ⟨⟨b,rfl⟩,hb3⟩;have HB3:=zh (HB2.out.trans (hb3.mono HB2.out.size));clear hb3;go_wp2;go_ret;exact ⟨⟨_,rfl,fun _=>HFE.out⟩,HB3.out⟩
  ·have t1:decide (x≤most)=false:=zF hx;go_wp2;go_ret;exact ⟨⟨_,rfl,fun h=>by cases h⟩,HB2.out⟩
