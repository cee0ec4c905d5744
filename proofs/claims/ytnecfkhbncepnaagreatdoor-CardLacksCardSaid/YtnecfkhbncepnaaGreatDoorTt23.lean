/- Merged: SmB SmC SmD SmE. -/
import Derived.Test.YtnecfkhbncepnaaGreatDoorTt15
import Derived.RegionTactic
import Derived.BigRegion
set_option maxRecDepth 100000
set_option maxHeartbeats 4000000
namespace Go.Proofs.YtnecfkhbncepnaaGreatDoor
namespace Sm
open Go.Proofs Go.RowKit Utf Nu Wo
def qrh (p:Pr) (w:World) (e:Ending) (w':World):Prop:=e = .returned (prV p)∧Below w.heap.size w w'
theorem dW (w:World) (o:Obj):(w.alloc o).heap.size=w.heap.size+1:=by simp
theorem qlm (l:List UInt8) (x:UInt8):∀ a,cr a (l++[x])=cr a l*10+(x.toNat:Int)-48:=by
 induction l with
 | nil=>intro a;rfl
 | cons c r ih=>intro a;exact ih _
theorem qdP {l:List UInt8} {k:Nat} (h:k<l.length) (a:Int):cr a (l.take (k+1))=cr a (l.take k)*10+byt l k-48:=by
 rw [List.take_succ_eq_append_getElem h,qlm,qay h]
theorem qiM {l:List UInt8}:∀ k,k≤3→ -100000≤cr 0 (l.take k)∧cr 0 (l.take k)≤100000:=by
 have st:∀ k (B:Int), -B≤cr 0 (l.take k)→cr 0 (l.take k)≤B→0≤B→ -(B*10+300)≤cr 0 (l.take (k+1))∧cr 0 (l.take (k+1))≤B*10+300:=fun k B h1 h2 h3=>by
  rcases Nat.lt_or_ge k l.length with h | h
  ·rw [qdP h];have:=dZ l k;have:=qbB l k;omega
  ·rw [List.take_of_length_le (by omega)];rw [List.take_of_length_le (by omega)] at h1 h2;omega
 have h0:cr 0 (l.take 0)=0:=rfl;have a1 : -300≤cr 0 (l.take 1)∧cr 0 (l.take 1)≤300:=st 0 0 (by omega) (by omega) (by omega);have a2 : -3300≤cr 0 (l.take 2)∧cr 0 (l.take 2)≤3300:=st 1 300 a1.1 a1.2 (by omega);have a3 : -33300≤cr 0 (l.take 3)∧cr 0 (l.take 3)≤33300:=st 2 3300 a2.1 a2.2 (by omega);intro k hk
 match k,hk with
 | 0,_=>omega
 | 1,_=>omega
 | 2,_=>omega
 | 3,_=>omega
theorem qjd (q:List UInt8) (r:List (List UInt8)) (ar:List UInt8) (mu:Bool):d6 (q::r) ar mu=if q=[33] then d6 r ar true
  else if q=[61] then (match r with | []=>none | d::_=>some (ar,mu,d))
  else if ar=[] then d6 r q mu
  else d6 r (ar++[32]++q) mu:=by
 cases r <;> rfl
theorem qi1 {ps:List (List UInt8)} {P:Pr} (h:qb6 ps=some P):∃ nm fm r ar mu df,ps=nm::fm::r∧fm.length≤3∧d6 r [] false=some (ar,mu,df)∧P=⟨nm,cr 0 fm,ar,mu,df⟩:=by
 unfold qb6 at h;split at h
 ·rename_i nm fm r
  split at h
  ·rename_i hl
   cases hr:d6 r [] false with
   | none=>rw [hr] at h;cases h
   | some x=>
    obtain ⟨ar,mu,df⟩:=x;rw [hr] at h;exact ⟨nm,fm,r,ar,mu,df,rfl,hl,hr,(Option.some.inj h).symm⟩
  ·cases h
 ·cases h
theorem qm9 (q:List UInt8) (P:Pr) (w:World) (hq:q.length≤400) (hP:qb6 (spl 32 q)=some P) :
  Calls Tryz.prog 49 #[.string (aa q)] w (qrh P w):=by
 have HC:=zh (fun W=>qfV (aa q) 32 W (by rw [ai];omega) (by
  have:=qa9 32 q;rw [ao];omega))
 rw [ao,show ((32:UInt8).toNat:Int)=32 from rfl] at HC;have HLE:=zh (show ∀ p,p∈spl 32 q→p.length≤400 from fun p hp=>by have:=qdx hp;omega);have HCNT:=zh (qa9 32 q);obtain ⟨nm,fm,rs,ar,mu,df,hs,hfm,hr,rfl⟩:=qi1 hP;rw [hs] at HC HLE HCNT;have HR:=zh hr;clear hP hs hr;obtain ⟨n,hn⟩:∃ n,rs.length+2=n:=⟨_,rfl⟩
 have HN:=zh hn;have hn2:n≤401:=by have:=HCNT.out;simp at this;omega
 obtain ⟨W0,hW0⟩:∃ W0,W0=w.alloc (.cells #[.string ⟨#[]⟩,.int .i64 0,.string ⟨#[]⟩,.bool false,.string ⟨#[]⟩] 31):=⟨_,rfl⟩
 have HB0:=zh (show Below w.heap.size w W0 by rw [hW0];exact (Below.refl _ _).alloc (Nat.le_refl _) _);have HS0:=zh (show W0.heap.size=w.heap.size+1 by rw [hW0,dW]);have HR0:=zh (show W0.heap[w.heap.size]? = some (.cells #[.string ⟨#[]⟩,.int .i64 0,.string ⟨#[]⟩,.bool false,.string ⟨#[]⟩] 31 (0,0)) by rw [hW0];exact heap_alloc_new _ _);have HW0:=zh hW0;clear hW0 hn;go_enter Tryz.func49,Tryz.ntmps49;go_wp2_with fail;rw [←HW0.out];refine (HC.out _).mono ?_;rintro e W1 ⟨v,rfl,hown,hb⟩;have HB1:=zh hb;obtain ⟨g,cp,rfl,hg,hcell⟩:=qpv hown (by rw [qcd];simp);have HCELL:=zh (show ∀ j (h:j<(nm::fm::rs).length),W1.cell? ⟨g,j,none⟩=some (.string (aa (nm::fm::rs)[j])) from fun j h=>hcell j _ (qkM _ j h));have c0:=HCELL.out 0 (by simp);rw [show (nm::fm::rs)[0]=nm from rfl] at c0;rw [qcd,show (nm::fm::rs).length=n from by rw [←HN.out];rfl];clear hb hown hcell;have k01:(0:Int)<(n:Int):=by have:=HN.out;omega
 have k11:(1:Int)<(n:Int):=by have:=HN.out;omega
 go_wp2_with fail;have c1:=HCELL.out 1 (by simp);rw [show (nm::fm::rs)[1]=fm from rfl] at c1;obtain ⟨X,hX⟩:∃ X,aa fm=X:=⟨_,rfl⟩
 have HX:=zh hX;have hm:X.size≤3:=by rw [←hX,ai];exact hfm
 have HM:=zh (show fm.length=X.size by rw [←hX,ai]);have HBG:=zh (fun j (h:j<X.size)=>aY X j h);rw [show X.data.toList=fm by rw [←hX];rfl] at HBG;rw [hX] at c1;have HB2:=zh (show Below W1.heap.size W1 (W1.alloc (.cells #[.string (aa nm),.int .i64 0,.string ⟨#[]⟩,.bool false,.string ⟨#[]⟩] 31)) from (Below.refl _ _).alloc (Nat.le_refl _) _);have HR2:=zh (show (W1.alloc (.cells #[.string (aa nm),.int .i64 0,.string ⟨#[]⟩,.bool false,.string ⟨#[]⟩] 31)).heap[W1.heap.size]? = some (.cells #[.string (aa nm),.int .i64 0,.string ⟨#[]⟩,.bool false,.string ⟨#[]⟩] 31 (0,0)) from heap_alloc_new _ _);have HS2:=zh (show (W1.alloc (.cells #[.string (aa nm),.int .i64 0,.string ⟨#[]⟩,.bool false,.string ⟨#[]⟩] 31)).heap.size=W1.heap.size+1 from dW _ _);clear hX c0 hfm;obtain ⟨NM,hNM⟩:∃ NM,aa nm=NM:=⟨_,rfl⟩
 have HNM:=zh hNM;rw [hNM] at HB2 HR2 HS2 ⊢;clear hNM;generalize W1.alloc (.cells #[.string NM,.int .i64 0,.string ⟨#[]⟩,.bool false,.string ⟨#[]⟩] 31)=W2 at *;go_loopw [5] (fun i wr=>∃ k:Nat,i = .int .i64 (k:Int)∧k≤X.size∧Aside (Below W1.heap.size W1 wr)∧Aside (wr.heap[W1.heap.size]? = some (.cells #[.string NM,.int .i64 (cr 0 (fm.take k)),.string ⟨#[]⟩,.bool false,.string ⟨#[]⟩] 31 (0,0)))) (fun i _=>X.size-(intOf i).toNat)
 case atStart=>exact ⟨0,rfl,by omega,HB2.out,HR2.out⟩
 case round=>
  obtain ⟨k,rfl,hk,hbel,hbox⟩:=hrel;have HBE:=zh hbel.out;have HBX:=zh hbox.out;obtain ⟨⟨x0,x1,x2,x3,x4⟩,⟨f0,f1,f2,f3,f4⟩⟩:=aO hbox.out;have p1:=(hbel.out.cell (p:=⟨g,1,none⟩) hg).trans c1;obtain ⟨bd1,bd2⟩:=qiM (l:=fm) k (by omega);clear hbel hbox;by_cases hlt:k<X.size
  ·have t1:decide ((k:Int)<(X.size:Int))=true:=zT (by omega);have t2:decide (k<X.size)=true:=zT hlt;have k0:(0:Int)≤(k:Int):=by omega
   have k1:(k:Int)<(X.size:Int):=by omega
   have k2:((k:Int)).toNat=k:=by omega
   have HF:=zh (qdP (l:=fm) (k:=k) (by rw [HM.out];exact hlt) 0);rw [HBG.out k hlt] at HF;have b0:(0:Int)≤(X[k].toNat:Int):=by omega
   have b1:(X[k].toNat:Int)≤255:=by have:=X[k].toNat_lt;omega
   generalize cr 0 (fm.take k)=F at *;go_wp2_with fail;go_region
   have HB2:=zh (show Below W1.heap.size W1 (wr.setCell ⟨W1.heap.size,1,none⟩ (.int .i64 (F*10+(X[k].toNat:Int)-48))).drew from (HBE.out.setCell (p:=⟨W1.heap.size,1,none⟩) (Nat.le_refl _) _).drew);have HR2:=zh (qby wr W1.heap.size 1 _ _ (.int .i64 (F*10+(X[k].toNat:Int)-48)) HBX.out);go_wp2_with fail;go_roundw
   case rel=>exact ⟨k+1,by go_num,by omega,HB2.out,by rw [HF.out];exact HR2.out⟩
   case measure=>simp [intOf];omega
  ·have t1:decide ((k:Int)<(X.size:Int))=false:=zF (by omega);have t2:decide (k<X.size)=false:=zF hlt;have HFF:=zh (show cr 0 (fm.take k)=cr 0 fm by rw [List.take_of_length_le (by rw [HM.out];omega)]);rw [HFF.out] at HBX x1;generalize cr 0 fm=F at *;clear x0 x1 x2 x3 x4 f0 f1 f2 f3 f4 bd1 bd2 c1;go_wp2_with fail;clear p1 t1 t2;go_loopw [6] (fun i wr=>∃ (k:Nat) (a:List UInt8) (m:Bool),i = .int .i64 (k:Int)∧2≤k∧k≤n∧a.length≤k*401∧Aside (d6 (rs.drop (k-2)) a m=some (ar,mu,df))∧Aside (Below W1.heap.size W1 wr)∧Aside (wr.heap[W1.heap.size]? = some (.cells #[.string NM,.int .i64 F,.string (aa a),.bool m,.string ⟨#[]⟩] 31 (0,0)))) (fun i _=>n-(intOf i).toNat)
   case atStart=>exact ⟨2,[],false,rfl,Nat.le_refl _,by have:=HN.out;omega,by simp,HR.out,HBE.out,HBX.out⟩
   case round=>
    obtain ⟨k2,a,m,rfl,hk2,hkn,ha,hrest,hbel,hbox⟩:=hrel;have HBE3:=zh hbel.out;have HBX3:=zh hbox.out;have HRS:=zh hrest.out;have hrr:wr.heap[w.heap.size]? = some (.cells #[.string ⟨#[]⟩,.int .i64 0,.string ⟨#[]⟩,.bool false,.string ⟨#[]⟩] 31 (0,0)):=
     (hbel.out.block w.heap.size (by have:=HB1.out.size;have:=HS0.out;omega)).trans ((HB1.out.block w.heap.size (by have:=HS0.out;omega)).trans HR0.out)
    have HRR:=zh hrr;have HWB:=zh (show Below w.heap.size w wr from HB0.out.trans ((HB1.out.trans (hbel.out.mono HB1.out.size)).mono HB0.out.size));obtain ⟨⟨x0,x1,x2,x3,x4⟩,⟨f0,f1,f2,f3,f4⟩⟩:=aO hbox.out;obtain ⟨⟨r0,r1,r2,r3,r4⟩,⟨e0,e1,e2,e3,e4⟩⟩:=aO hrr;have HPC:=zh (fun j (h:j<(nm::fm::rs).length)=>(hbel.out.cell (p:=⟨g,j,none⟩) hg).trans (HCELL.out j h));clear hbel hbox hrest hrr;by_cases hlt:k2<n
    ·have t1:decide ((k2:Int)<(n:Int))=true:=zT (by omega);have t2:decide (k2<n)=true:=zT hlt;have k0:(0:Int)≤(k2:Int):=by omega
     have k1:(k2:Int)<(n:Int):=by omega
     have k2':((k2:Int)).toNat=k2:=by omega
     have hkl:k2<(nm::fm::rs).length:=by have:=HN.out;simp;omega
     have hkr:k2-2<rs.length:=by have:=HN.out;omega
     have hget:(nm::fm::rs)[k2]=rs[k2-2]:=by
      obtain ⟨j,rfl⟩:∃ j,k2=j+2:=⟨k2-2,by omega⟩
      rfl
     have pk:=HPC.out k2 hkl;rw [hget] at pk;have hple:=HLE.out _ (List.getElem_mem hkl);rw [hget] at hple;have hdrop:rs.drop (k2-2)=rs[k2-2]::rs.drop (k2+1-2):=by
      rw [List.drop_eq_getElem_cons hkr,show k2-2+1=k2+1-2 by omega]
     have hrs:=HRS.out;rw [hdrop] at hrs;have HDN:=zh (show rs.drop (k2+1-2)≠[]→∃ h:k2+1<(nm::fm::rs).length,(nm::fm::rs)[k2+1]=(rs.drop (k2+1-2)).head! from fun h=>by
      have h2:k2+1-2<rs.length:=by
       rcases Nat.lt_or_ge (k2+1-2) rs.length with h3 | h3
       ·exact h3
       ·exact absurd (List.drop_eq_nil_of_le h3) h
      refine ⟨by simp;omega,?_⟩;rw [List.drop_eq_getElem_cons h2];obtain ⟨j,rfl⟩:∃ j,k2=j+2:=⟨k2-2,by omega⟩
      rfl)
     clear hdrop hget hkl;generalize rs[k2-2]=p at *;obtain ⟨rest,hrest⟩:∃ z,rs.drop (k2+1-2)=z:=⟨_,rfl⟩
     rw [hrest] at hrs HDN;have HRE:=zh hrest;clear hrest;rw [qjd] at hrs;have HPL:=zh (ah p);by_cases q1:p=[33]
     ·rw [if_pos q1] at hrs;have u1:((aa p).toList==[33])=true:=by rw [HPL.out,q1];rfl
      have u2:(aa p).toList=[33]:=by rw [HPL.out,q1]
      have HRS2:=zh (show d6 (rs.drop (k2+1-2)) a true=some (ar,mu,df) by rw [HRE.out];exact hrs);have HB3:=zh (show Below W1.heap.size W1 (wr.setCell ⟨W1.heap.size,3,none⟩ (.bool true)) from HBE3.out.setCell (p:=⟨W1.heap.size,3,none⟩) (Nat.le_refl _) _);have HX3:=zh (qby wr W1.heap.size 3 _ _ (.bool true) HBX3.out);generalize aa p=PP at *;clear hrs q1;go_wp2_with fail;go_roundw
      case rel=>exact ⟨k2+1,a,true,by go_num,by omega,by omega,by omega,HRS2.out,HB3.out,HX3.out⟩
      case measure=>simp [intOf];omega
     ·rw [if_neg q1] at hrs;have u1:((aa p).toList==[33])=false:=by rw [HPL.out];exact beq_eq_false_iff_ne.2 q1
      have u2:¬(aa p).toList=[33]:=by rw [HPL.out];exact q1
      by_cases q2:p=[61]
      ·rw [if_pos q2] at hrs;have v1:((aa p).toList==[61])=true:=by rw [HPL.out,q2];rfl
       have v2:(aa p).toList=[61]:=by rw [HPL.out,q2]
       cases hz:rest with
       | nil=>rw [hz] at hrs;cases hrs
       | cons d z=>
        rw [hz] at hrs HDN;have hrs2:some (a,m,d)=some (ar,mu,df):=hrs;injection hrs2 with hrs2
        injection hrs2 with h1 hrs2
        injection hrs2 with h2 h3
        subst h1 h2 h3;obtain ⟨hk1,hd1⟩:=HDN.out (by simp);have pd:=HPC.out (k2+1) hk1;rw [hd1,show (d::z).head! = d from rfl] at pd;have j0:(0:Int)≤(k2:Int)+1:=by omega
        have j1:(k2:Int)+1<(n:Int):=by have:=HN.out;simp at hk1;omega
        have j2:((k2:Int)+1).toNat=k2+1:=by omega
        have HPV:=zh (show prV ⟨nm,F,a,m,d⟩ = .agg #[.string NM,.int .i64 F,.string (aa a),.bool m,.string (aa d)] by
         rw [←HNM.out];rfl)
        generalize aa p=PP at *;generalize aa a=AA at *;generalize aa d=DD at *;have HRR2:=zh (show (wr.setCell ⟨W1.heap.size,4,none⟩ (.string DD)).heap[w.heap.size]? = some (.cells #[.string ⟨#[]⟩,.int .i64 0,.string ⟨#[]⟩,.bool false,.string ⟨#[]⟩] 31 (0,0)) from
         (Below.heap_setCell _ _ _ w.heap.size (by show w.heap.size≠W1.heap.size;have:=HB1.out.size;have:=HS0.out;omega)).trans HRR.out)
        have HWB2:=zh (HWB.out.setCell (p:=⟨W1.heap.size,4,none⟩) (by show w.heap.size≤W1.heap.size;have:=HB1.out.size;have:=HS0.out;omega) (.string DD));have hx4:=qby wr W1.heap.size 4 _ _ (.string DD) HBX3.out;obtain ⟨⟨z0,z1,z2,z3,z4⟩, -⟩:=aO (w:=wr.setCell ⟨W1.heap.size,4,none⟩ (.string DD)) (b:=W1.heap.size) (u0:= .string NM) (u1:= .int .i64 F) (u2:= .string AA) (u3:= .bool m) (u4:= .string DD) hx4;obtain ⟨⟨s0,s1,s2,s3,s4⟩,⟨h0,h1,h2,h3,h4⟩⟩:=aO HRR2.out;clear hrs q1 q2 hz hd1 hk1 r0 r1 r2 r3 r4 e0 e1 e2 e3 e4 x0 x1 x3 f0 f1 f2 f3 hx4;go_wp2_with fail;refine bodyPost_ret (quT rfl rfl (qc0 HRR2.out (.string NM) (.int .i64 F) (.string AA) (.bool m) (.string DD))) rfl ?_;exact ⟨by rw [HPV.out],ft HWB2.out (Nat.le_refl _) _ _ _ _ _⟩
      ·rw [if_neg q2] at hrs;have v1:((aa p).toList==[61])=false:=by rw [HPL.out];exact beq_eq_false_iff_ne.2 q2
       have v2:¬(aa p).toList=[61]:=by rw [HPL.out];exact q2
       have HAL:=zh (ah a);by_cases q3:a=[]
       ·rw [if_pos q3] at hrs;have y1:((aa a).toList==[])=true:=by rw [HAL.out,q3];rfl
        have y2:(aa a).toList=[]:=by rw [HAL.out,q3]
        have HRS2:=zh (show d6 (rs.drop (k2+1-2)) p m=some (ar,mu,df) by rw [HRE.out];exact hrs);have HB3:=zh (show Below W1.heap.size W1 (wr.setCell ⟨W1.heap.size,2,none⟩ (.string (aa p))) from HBE3.out.setCell (p:=⟨W1.heap.size,2,none⟩) (Nat.le_refl _) _);have HX3:=zh (qby wr W1.heap.size 2 _ _ (.string (aa p)) HBX3.out);obtain ⟨PP,hPP⟩:∃ PP,aa p=PP:=⟨_,rfl⟩
        have HPP:=zh hPP;rw [hPP] at pk u1 u2 v1 v2 HB3 HX3;generalize aa a=AA at *;clear hrs q1 q2 q3 hPP;go_wp2_with fail;go_roundw
        case rel=>exact ⟨k2+1,p,m,by go_num,by omega,by omega,by omega,HRS2.out,HB3.out,by rw [HPP.out];exact HX3.out⟩
        case measure=>simp [intOf];omega
       ·rw [if_neg q3] at hrs;have y1:((aa a).toList==[])=false:=by rw [HAL.out];exact beq_eq_false_iff_ne.2 q3
        have y2:¬(aa a).toList=[]:=by rw [HAL.out];exact q3
        have HRS2:=zh (show d6 (rs.drop (k2+1-2)) (a++[32]++p) m=some (ar,mu,df) by rw [HRE.out];exact hrs);have hadd1:=qt4 (aa a) ⟨#[32]⟩ (by rw [ai];show _+1≤_;omega);have hadd2:=qt4 (aa (a++[32])) (aa p) (by rw [ai,ai,List.length_append];show _+1+_≤_;omega);rw [ao] at hadd1 hadd2;rw [ao] at hadd2;rw [show (⟨#[32]⟩:ByteArray).data.toList=[32] from rfl] at hadd1;have HB3:=zh (show Below W1.heap.size W1 (wr.setCell ⟨W1.heap.size,2,none⟩ (.string (aa (a++[32]++p)))).drew from (HBE3.out.setCell (p:=⟨W1.heap.size,2,none⟩) (Nat.le_refl _) _).drew);have HX3:=zh (qby wr W1.heap.size 2 _ _ (.string (aa (a++[32]++p))) HBX3.out);obtain ⟨A2,hA2⟩:∃ A2,aa (a++[32]++p)=A2:=⟨_,rfl⟩
        have HA2:=zh hA2;rw [hA2] at hadd2 HB3 HX3;have hlen:(a++[32]++p).length≤(k2+1)*401:=by rw [List.length_append,List.length_append];show _+1+_≤_;omega
        have HL3:=zh hlen;clear hrs q1 q2 q3 hA2 hlen;generalize aa (a++[32])=A1 at *;generalize aa a=AA at *;generalize aa p=PP at *;go_wp2_with fail;go_region
        go_wp2_with fail;go_roundw
        case rel=>exact ⟨k2+1,a++[32]++p,m,by go_num,by omega,by omega,HL3.out,HRS2.out,HB3.out,by rw [HA2.out];exact HX3.out⟩
        case measure=>simp [intOf];omega
    ·have t1:decide ((k2:Int)<(n:Int))=false:=zF (by omega);have t2:decide (k2<n)=false:=zF hlt;have hrs:=HRS.out;rw [List.drop_eq_nil_of_le (by have:=HN.out;omega)] at hrs;rw [d6] at hrs;injection hrs with hrs
     injection hrs with h1 hrs
     injection hrs with h2 h3
     subst h1 h2 h3;have HPV:=zh (show prV ⟨nm,F,a,m,[]⟩ = .agg #[.string NM,.int .i64 F,.string (aa a),.bool m,.string ⟨#[]⟩] by
      rw [←HNM.out];rfl)
     generalize aa a=AA at *;go_wp2;refine bodyPost_ret (quT rfl rfl (qc0 HRR.out (.string NM) (.int .i64 F) (.string AA) (.bool m) (.string ⟨#[]⟩))) rfl ?_;exact ⟨by rw [HPV.out],ft HWB.out (Nat.le_refl _) _ _ _ _ _⟩
theorem qmt (X:ByteArray) (w:World) :
  Calls Tryz.prog 47 #[.string X] w fun e w'=>e = .returned (.string (aa (bf X.data.toList)))∧w=w':=by
 obtain ⟨l,hl⟩:∃ l,X.data.toList=l:=⟨_,rfl⟩
 have hx:X.toList=l:=by rw [ByteArray.toList_eq];exact hl
 have HX:=zh hx;rw [hl];clear hl hx;by_cases h0:l=nm0
 ·have HT:=zh (show bf l=ln0 by rw [h0];exact qva);have t0:(X.toList==[67,97,114,100])=true:=by rw [HX.out,h0];rfl
  have p0:X.toList=[67,97,114,100]:=by rw [HX.out,h0];rfl
  rw [HT.out];clear h0 HT HX;go_enter Tryz.func47,Tryz.ntmps47;go_wp2_with fail;go_ret;exact ⟨by kernel_rfl,rfl⟩
 have t0:(X.toList==[67,97,114,100])=false:=by rw [HX.out];exact beq_eq_false_iff_ne.2 h0
 have p0:¬X.toList=[67,97,114,100]:=by rw [HX.out];exact h0
 by_cases h1:l=nm1
 ·have HT:=zh (show bf l=ln1 by rw [h1];exact qu5);have t1:(X.toList==[65,100,100,114,101,115,115])=true:=by rw [HX.out,h1];rfl
  have p1:X.toList=[65,100,100,114,101,115,115]:=by rw [HX.out,h1];rfl
  rw [HT.out];clear h0 h1 HT HX;go_enter Tryz.func47,Tryz.ntmps47;go_wp2_with fail;go_ret;exact ⟨by kernel_rfl,rfl⟩
 have t1:(X.toList==[65,100,100,114,101,115,115])=false:=by rw [HX.out];exact beq_eq_false_iff_ne.2 h1
 have p1:¬X.toList=[65,100,100,114,101,115,115]:=by rw [HX.out];exact h1
 by_cases h2:l=nm2
 ·have HT:=zh (show bf l=ln2 by rw [h2];exact qu3);have t2:(X.toList==[65,100,100,114,101,115,115,67,111,109,112,111,110,101,110,116])=true:=by rw [HX.out,h2];rfl
  have p2:X.toList=[65,100,100,114,101,115,115,67,111,109,112,111,110,101,110,116]:=by rw [HX.out,h2];rfl
  rw [HT.out];clear h0 h1 h2 HT HX;go_enter Tryz.func47,Tryz.ntmps47;go_wp2_with fail;go_ret;exact ⟨by kernel_rfl,rfl⟩
 have t2:(X.toList==[65,100,100,114,101,115,115,67,111,109,112,111,110,101,110,116])=false:=by rw [HX.out];exact beq_eq_false_iff_ne.2 h2
 have p2:¬X.toList=[65,100,100,114,101,115,115,67,111,109,112,111,110,101,110,116]:=by rw [HX.out];exact h2
 by_cases h3:l=nm3
 ·have HT:=zh (show bf l=ln3 by rw [h3];exact qu2);have t3:(X.toList==[65,110,110,105,118,101,114,115,97,114,121])=true:=by rw [HX.out,h3];rfl
  have p3:X.toList=[65,110,110,105,118,101,114,115,97,114,121]:=by rw [HX.out,h3];rfl
  rw [HT.out];clear h0 h1 h2 h3 HT HX;go_enter Tryz.func47,Tryz.ntmps47;go_wp2_with fail;go_ret;exact ⟨by kernel_rfl,rfl⟩
 have t3:(X.toList==[65,110,110,105,118,101,114,115,97,114,121])=false:=by rw [HX.out];exact beq_eq_false_iff_ne.2 h3
 have p3:¬X.toList=[65,110,110,105,118,101,114,115,97,114,121]:=by rw [HX.out];exact h3
 by_cases h4:l=nm4
 ·have HT:=zh (show bf l=ln4 by rw [h4];exact qu1);have t4:(X.toList==[69,109,97,105,108,65,100,100,114,101,115,115])=true:=by rw [HX.out,h4];rfl
  have p4:X.toList=[69,109,97,105,108,65,100,100,114,101,115,115]:=by rw [HX.out,h4];rfl
  rw [HT.out];clear h0 h1 h2 h3 h4 HT HX;go_enter Tryz.func47,Tryz.ntmps47;go_wp2_with fail;go_ret;exact ⟨by kernel_rfl,rfl⟩
 have t4:(X.toList==[69,109,97,105,108,65,100,100,114,101,115,115])=false:=by rw [HX.out];exact beq_eq_false_iff_ne.2 h4
 have p4:¬X.toList=[69,109,97,105,108,65,100,100,114,101,115,115]:=by rw [HX.out];exact h4
 by_cases h5:l=nm5
 ·have HT:=zh (show bf l=ln5 by rw [h5];exact quX);have t5:(X.toList==[76,97,110,103,117,97,103,101,80,114,101,102])=true:=by rw [HX.out,h5];rfl
  have p5:X.toList=[76,97,110,103,117,97,103,101,80,114,101,102]:=by rw [HX.out,h5];rfl
  rw [HT.out];clear h0 h1 h2 h3 h4 h5 HT HX;go_enter Tryz.func47,Tryz.ntmps47;go_wp2_with fail;go_ret;exact ⟨by kernel_rfl,rfl⟩
 have t5:(X.toList==[76,97,110,103,117,97,103,101,80,114,101,102])=false:=by rw [HX.out];exact beq_eq_false_iff_ne.2 h5
 have p5:¬X.toList=[76,97,110,103,117,97,103,101,80,114,101,102]:=by rw [HX.out];exact h5
 by_cases h6:l=nm6
 ·have HT:=zh (show bf l=ln6 by rw [h6];exact quU);have t6:(X.toList==[76,105,110,107])=true:=by rw [HX.out,h6];rfl
  have p6:X.toList=[76,105,110,107]:=by rw [HX.out,h6];rfl
  rw [HT.out];clear h0 h1 h2 h3 h4 h5 h6 HT HX;go_enter Tryz.func47,Tryz.ntmps47;go_wp2_with fail;go_ret;exact ⟨by kernel_rfl,rfl⟩
 have t6:(X.toList==[76,105,110,107])=false:=by rw [HX.out];exact beq_eq_false_iff_ne.2 h6
 have p6:¬X.toList=[76,105,110,107]:=by rw [HX.out];exact h6
 by_cases h7:l=nm7
 ·have HT:=zh (show bf l=ln7 by rw [h7];exact quZ);have t7:(X.toList==[77,101,100,105,97])=true:=by rw [HX.out,h7];rfl
  have p7:X.toList=[77,101,100,105,97]:=by rw [HX.out,h7];rfl
  rw [HT.out];clear h0 h1 h2 h3 h4 h5 h6 h7 HT HX;go_enter Tryz.func47,Tryz.ntmps47;go_wp2_with fail;go_ret;exact ⟨by kernel_rfl,rfl⟩
 have t7:(X.toList==[77,101,100,105,97])=false:=by rw [HX.out];exact beq_eq_false_iff_ne.2 h7
 have p7:¬X.toList=[77,101,100,105,97]:=by rw [HX.out];exact h7
 by_cases h8:l=nm8
 ·have HT:=zh (show bf l=ln8 by rw [h8];exact qvb);have t8:(X.toList==[78,97,109,101])=true:=by rw [HX.out,h8];rfl
  have p8:X.toList=[78,97,109,101]:=by rw [HX.out,h8];rfl
  rw [HT.out];clear h0 h1 h2 h3 h4 h5 h6 h7 h8 HT HX;go_enter Tryz.func47,Tryz.ntmps47;go_wp2_with fail;go_ret;exact ⟨by kernel_rfl,rfl⟩
 have t8:(X.toList==[78,97,109,101])=false:=by rw [HX.out];exact beq_eq_false_iff_ne.2 h8
 have p8:¬X.toList=[78,97,109,101]:=by rw [HX.out];exact h8
 by_cases h9:l=nm9
 ·have HT:=zh (show bf l=ln9 by rw [h9];exact qu0);have t9:(X.toList==[78,97,109,101,67,111,109,112,111,110,101,110,116])=true:=by rw [HX.out,h9];rfl
  have p9:X.toList=[78,97,109,101,67,111,109,112,111,110,101,110,116]:=by rw [HX.out,h9];rfl
  rw [HT.out];clear h0 h1 h2 h3 h4 h5 h6 h7 h8 h9 HT HX;go_enter Tryz.func47,Tryz.ntmps47;go_wp2_with fail;go_ret;exact ⟨by kernel_rfl,rfl⟩
 have t9:(X.toList==[78,97,109,101,67,111,109,112,111,110,101,110,116])=false:=by rw [HX.out];exact beq_eq_false_iff_ne.2 h9
 have p9:¬X.toList=[78,97,109,101,67,111,109,112,111,110,101,110,116]:=by rw [HX.out];exact h9
 by_cases h10:l=qfj
 ·have HT:=zh (show bf l=qsx by rw [h10];exact qui);have t10:(X.toList==[78,105,99,107,110,97,109,101])=true:=by rw [HX.out,h10];rfl
  have p10:X.toList=[78,105,99,107,110,97,109,101]:=by rw [HX.out,h10];rfl
  rw [HT.out];clear h0 h1 h2 h3 h4 h5 h6 h7 h8 h9 h10 HT HX;go_enter Tryz.func47,Tryz.ntmps47;go_wp2_with fail;go_ret;exact ⟨by kernel_rfl,rfl⟩
 have t10:(X.toList==[78,105,99,107,110,97,109,101])=false:=by rw [HX.out];exact beq_eq_false_iff_ne.2 h10
 have p10:¬X.toList=[78,105,99,107,110,97,109,101]:=by rw [HX.out];exact h10
 by_cases h11:l=qfh
 ·have HT:=zh (show bf l=qtO by rw [h11];exact qt5);have t11:(X.toList==[78,111,116,101])=true:=by rw [HX.out,h11];rfl
  have p11:X.toList=[78,111,116,101]:=by rw [HX.out,h11];rfl
  rw [HT.out];clear h0 h1 h2 h3 h4 h5 h6 h7 h8 h9 h10 h11 HT HX;go_enter Tryz.func47,Tryz.ntmps47;go_wp2_with fail;go_ret;exact ⟨by kernel_rfl,rfl⟩
 have t11:(X.toList==[78,111,116,101])=false:=by rw [HX.out];exact beq_eq_false_iff_ne.2 h11
 have p11:¬X.toList=[78,111,116,101]:=by rw [HX.out];exact h11
 by_cases h12:l=qfv
 ·have HT:=zh (show bf l=qtD by rw [h12];exact qtV);have t12:(X.toList==[79,110,108,105,110,101,83,101,114,118,105,99,101])=true:=by rw [HX.out,h12];rfl
  have p12:X.toList=[79,110,108,105,110,101,83,101,114,118,105,99,101]:=by rw [HX.out,h12];rfl
  rw [HT.out];clear h0 h1 h2 h3 h4 h5 h6 h7 h8 h9 h10 h11 h12 HT HX;go_enter Tryz.func47,Tryz.ntmps47;go_wp2_with fail;go_ret;exact ⟨by kernel_rfl,rfl⟩
 have t12:(X.toList==[79,110,108,105,110,101,83,101,114,118,105,99,101])=false:=by rw [HX.out];exact beq_eq_false_iff_ne.2 h12
 have p12:¬X.toList=[79,110,108,105,110,101,83,101,114,118,105,99,101]:=by rw [HX.out];exact h12
 by_cases h13:l=qfm
 ·have HT:=zh (show bf l=qtl by rw [h13];exact qt6);have t13:(X.toList==[79,114,103,85,110,105,116])=true:=by rw [HX.out,h13];rfl
  have p13:X.toList=[79,114,103,85,110,105,116]:=by rw [HX.out,h13];rfl
  rw [HT.out];clear h0 h1 h2 h3 h4 h5 h6 h7 h8 h9 h10 h11 h12 h13 HT HX;go_enter Tryz.func47,Tryz.ntmps47;go_wp2_with fail;go_ret;exact ⟨by kernel_rfl,rfl⟩
 have t13:(X.toList==[79,114,103,85,110,105,116])=false:=by rw [HX.out];exact beq_eq_false_iff_ne.2 h13
 have p13:¬X.toList=[79,114,103,85,110,105,116]:=by rw [HX.out];exact h13
 by_cases h14:l=qfa
 ·have HT:=zh (show bf l=qsT by rw [h14];exact qua);have t14:(X.toList==[79,114,103,97,110,105,122,97,116,105,111,110])=true:=by rw [HX.out,h14];rfl
  have p14:X.toList=[79,114,103,97,110,105,122,97,116,105,111,110]:=by rw [HX.out,h14];rfl
  rw [HT.out];clear h0 h1 h2 h3 h4 h5 h6 h7 h8 h9 h10 h11 h12 h13 h14 HT HX;go_enter Tryz.func47,Tryz.ntmps47;go_wp2_with fail;go_ret;exact ⟨by kernel_rfl,rfl⟩
 have t14:(X.toList==[79,114,103,97,110,105,122,97,116,105,111,110])=false:=by rw [HX.out];exact beq_eq_false_iff_ne.2 h14
 have p14:¬X.toList=[79,114,103,97,110,105,122,97,116,105,111,110]:=by rw [HX.out];exact h14
 by_cases h15:l=qcE
 ·have HT:=zh (show bf l=qtR by rw [h15];exact qt0);have t15:(X.toList==[80,97,114,116,105,97,108,68,97,116,101])=true:=by rw [HX.out,h15];rfl
  have p15:X.toList=[80,97,114,116,105,97,108,68,97,116,101]:=by rw [HX.out,h15];rfl
  rw [HT.out];clear h0 h1 h2 h3 h4 h5 h6 h7 h8 h9 h10 h11 h12 h13 h14 h15 HT HX;go_enter Tryz.func47,Tryz.ntmps47;go_wp2_with fail;go_ret;exact ⟨by kernel_rfl,rfl⟩
 have t15:(X.toList==[80,97,114,116,105,97,108,68,97,116,101])=false:=by rw [HX.out];exact beq_eq_false_iff_ne.2 h15
 have p15:¬X.toList=[80,97,114,116,105,97,108,68,97,116,101]:=by rw [HX.out];exact h15
 by_cases h16:l=qfl
 ·have HT:=zh (show bf l=qsb by rw [h16];exact qut);have t16:(X.toList==[80,104,111,110,101])=true:=by rw [HX.out,h16];rfl
  have p16:X.toList=[80,104,111,110,101]:=by rw [HX.out,h16];rfl
  rw [HT.out];clear h0 h1 h2 h3 h4 h5 h6 h7 h8 h9 h10 h11 h12 h13 h14 h15 h16 HT HX;go_enter Tryz.func47,Tryz.ntmps47;go_wp2_with fail;go_ret;exact ⟨by kernel_rfl,rfl⟩
 have t16:(X.toList==[80,104,111,110,101])=false:=by rw [HX.out];exact beq_eq_false_iff_ne.2 h16
 have p16:¬X.toList=[80,104,111,110,101]:=by rw [HX.out];exact h16
 by_cases h17:l=qfo
 ·have HT:=zh (show bf l=qsV by rw [h17];exact qtY);have t17:(X.toList==[82,101,108,97,116,105,111,110])=true:=by rw [HX.out,h17];rfl
  have p17:X.toList=[82,101,108,97,116,105,111,110]:=by rw [HX.out,h17];rfl
  rw [HT.out];clear h0 h1 h2 h3 h4 h5 h6 h7 h8 h9 h10 h11 h12 h13 h14 h15 h16 h17 HT HX;go_enter Tryz.func47,Tryz.ntmps47;go_wp2_with fail;go_ret;exact ⟨by kernel_rfl,rfl⟩
 have t17:(X.toList==[82,101,108,97,116,105,111,110])=false:=by rw [HX.out];exact beq_eq_false_iff_ne.2 h17
 have p17:¬X.toList=[82,101,108,97,116,105,111,110]:=by rw [HX.out];exact h17
 by_cases h18:l=du
 ·have HT:=zh (show bf l=qsO by rw [h18];exact quk);have t18:(X.toList==[84,105,109,101,115,116,97,109,112])=true:=by rw [HX.out,h18];rfl
  have p18:X.toList=[84,105,109,101,115,116,97,109,112]:=by rw [HX.out,h18];rfl
  rw [HT.out];clear h0 h1 h2 h3 h4 h5 h6 h7 h8 h9 h10 h11 h12 h13 h14 h15 h16 h17 h18 HT HX;go_enter Tryz.func47,Tryz.ntmps47;go_wp2_with fail;go_ret;exact ⟨by kernel_rfl,rfl⟩
 have t18:(X.toList==[84,105,109,101,115,116,97,109,112])=false:=by rw [HX.out];exact beq_eq_false_iff_ne.2 h18
 have p18:¬X.toList=[84,105,109,101,115,116,97,109,112]:=by rw [HX.out];exact h18
 by_cases h19:l=qfs
 ·have HT:=zh (show bf l=qs0 by rw [h19];exact qtX);have t19:(X.toList==[84,105,116,108,101])=true:=by rw [HX.out,h19];rfl
  have p19:X.toList=[84,105,116,108,101]:=by rw [HX.out,h19];rfl
  rw [HT.out];clear h0 h1 h2 h3 h4 h5 h6 h7 h8 h9 h10 h11 h12 h13 h14 h15 h16 h17 h18 h19 HT HX;go_enter Tryz.func47,Tryz.ntmps47;go_wp2_with fail;go_ret;exact ⟨by kernel_rfl,rfl⟩
 have t19:(X.toList==[84,105,116,108,101])=false:=by rw [HX.out];exact beq_eq_false_iff_ne.2 h19
 have p19:¬X.toList=[84,105,116,108,101]:=by rw [HX.out];exact h19
 have HT:=zh (show bf l=[] from qjt h0 h1 h2 h3 h4 h5 h6 h7 h8 h9 h10 h11 h12 h13 h14 h15 h16 h17 h18 h19);rw [HT.out];clear h0 h1 h2 h3 h4 h5 h6 h7 h8 h9 h10 h11 h12 h13 h14 h15 h16 h17 h18 h19 HT HX;go_enter Tryz.func47,Tryz.ntmps47;go_wp2_with fail;go_ret;exact ⟨rfl,rfl⟩
theorem qso:(Tryz.prog.info? 31).map (fun i=>(i.zero,i.size,i.bytes))=some (some (.agg #[.string ⟨#[]⟩,.int .i64 0,.string ⟨#[]⟩,.bool false,.string ⟨#[]⟩]),5,64):=by kernel_rfl
theorem qeC {w:World} {B B' E s n:Nat} {v:Value} {xs:List Value} (h:w.ownsRow B E s v n xs) (hb:B'≤B):w.ownsRow B' E s v n xs:=
 ⟨h.1,h.2.imp id fun ⟨g,cap,cur,h1,h2,h3⟩=>⟨g,cap,cur,h1,Nat.le_trans hb h2,h3⟩⟩
theorem qtF (a:ByteArray) (f:Int) (b:ByteArray) (m:Bool) (d:ByteArray):∀ u∈[Value.string a,.int .i64 f,.string b,.bool m,.string d],u.oneCell'=true:=by
 intro u hu;simp only [List.mem_cons,List.not_mem_nil,or_false] at hu;rcases hu with rfl | rfl | rfl | rfl | rfl <;> rfl
theorem qj5 (X:ByteArray) (w:World):Calls Tryz.prog 23 #[.string X] w (al 31 (ae X.data.toList) w):=by
 obtain ⟨i0,hi,hz0,hz1,hz2⟩:=info_parts qso;have HT:=zh (fun W=>qmt X W);have HP:=zh (show ae X.data.toList=if bf X.data.toList=[] then [] else qf6 (bf X.data.toList) from rfl);have HOK:=zh (fun h=>qnq (l:=X.data.toList) h);have HTL:=zh (qkv X.data.toList);generalize ae X.data.toList=L at *;generalize bf X.data.toList=T at *;by_cases h0:T=[]
 ·have HL:=zh (show L=[] by rw [HP.out,if_pos h0]);rw [h0] at HT;rw [HL.out];rw [show aa []=(⟨#[]⟩:ByteArray) from rfl] at HT;clear h0;go_enter Tryz.func23,Tryz.ntmps23;go_wp2_with fail;refine (HT.out _).mono ?_;rintro e w1 ⟨rfl,rfl⟩;go_wp2_with fail;go_ret;exact ⟨_,rfl,World.ownsRow_nil _ _ _ _,Below.refl _ _⟩
 ·have HL:=zh (show L=qf6 T by rw [HP.out,if_neg h0]);obtain ⟨hok, -⟩:=HOK.out h0;have t0:((aa T).toList==[])=false:=by rw [ah];exact beq_eq_false_iff_ne.2 h0
  have t0':¬(aa T).toList=[]:=by rw [ah];exact h0
  have HS:=zh (fun W=>qfV (aa T) 59 W (by rw [ai];have:=HTL.out;omega) (by
   have:=qa9 59 T;have:=HTL.out;rw [ao];omega))
  rw [ao,show ((59:UInt8).toNat:Int)=59 from rfl] at HS;have HPL:=zh (show ∀ k (h:k<(spl 59 T).length) (h2:k<L.length),qb6 (spl 32 (spl 59 T)[k])=some L[k]∧(spl 59 T)[k].length≤400 from fun k h h2=>by
   have h3:=hok _ (List.getElem_mem h);refine ⟨?_,?_⟩
   ·rw [qqy h3];simp only [HL.out,qf6,List.getElem_map]
   ·unfold okQ at h3;rw [Bool.and_eq_true,decide_eq_true_eq] at h3;exact h3.2)
  have HLN:=zh (show L.length=(spl 59 T).length by rw [HL.out,qf6,List.length_map]);have HCN:=zh (qa9 59 T);generalize spl 59 T=ps at *;generalize aa T=TT at *;obtain ⟨n,hn⟩:∃ n,ps.length=n:=⟨_,rfl⟩
  have HN:=zh hn;have hn2:n≤701:=by have:=HCN.out;have:=HTL.out;omega
  clear h0 hok hn;go_enter Tryz.func23,Tryz.ntmps23;go_wp2_with fail;refine (HT.out _).mono ?_;rintro e w1 ⟨rfl,rfl⟩;go_wp2_with fail;refine (HS.out _).mono ?_;rintro e W1 ⟨v0,rfl,hown,hb⟩;have HB1:=zh hb;obtain ⟨A,cp,rfl,hx⟩:=Rd.of_own hown;have HX:=zh hx;rw [qcd,HN.out];clear hown hb hx;go_wp2_with fail;go_loopw [4,6] (fun v i wr=>∃ k:Nat,i = .int .i64 (k:Int)∧k≤n∧Aside (wr.ownsRow W1.heap.size 31 5 v k (aR (L.take k)))∧Aside (Below W1.heap.size W1 wr)) (fun _ i _=>n-(intOf i).toNat)
  case atStart=>exact ⟨0,rfl,by omega,(show World.ownsRow _ _ _ _ _ _ _ from World.ownsRow_nil _ _ _ _),(show Below _ _ _ from Below.refl _ _)⟩
  case round=>
   obtain ⟨k,rfl,hk,hrow,hbel⟩:=hrel;have HRW:=zh hrow.out;have HBE:=zh hbel.out;clear hrow hbel;by_cases hlt:k<n
   ·have t1:decide ((k:Int)<(n:Int))=true:=zT (by omega);have t2:decide (k<n)=true:=zT hlt;have k0:(0:Int)≤(k:Int):=by omega
    have k1:(k:Int)<(n:Int):=by omega
    have k2:((k:Int)).toNat=k:=by omega
    have hkl:k<ps.length:=by rw [HN.out];exact hlt
    have hkL:k<L.length:=by rw [HLN.out];exact hkl
    obtain ⟨ad,rfl,had,hc⟩:=HX.out (by rw [qcd];omega);have ap:=(HBE.out.cell (p:=ad.add k) (by rw [qdu];exact had)).trans (hc k _ (qkM ps k hkl));obtain ⟨hp1,hp2⟩:=HPL.out k hkl hkL;have HC:=zh (fun W=>qm9 ps[k] L[k] W hp2 hp1);have HTK:=zh (show aR (L.take (k+1))=aR (L.take k)++prC L[k] by rw [List.take_succ_eq_append_getElem hkL,eZ,qeS]);have HTE:=zh (show (L.take k).length=k by rw [List.length_take];omega);generalize L[k]=P at *;generalize aa ps[k]=Q at *;clear hc hp1 hp2;go_wp2_with fail;refine (HC.out _).mono ?_;rintro e w2 ⟨rfl,hb⟩;have hown:=bt HRW.out hb;have HB2:=zB hb HBE;have HBS:=zh HB2.out.size;unfold prV;have HPC:=zh (show prC P=[.string (aa P.nm),.int .i64 P.fm,.string (aa P.ar),.bool P.mu,.string (aa P.df)] from rfl);generalize aa P.nm=p0 at *;generalize P.fm=p1 at *;generalize aa P.ar=p2 at *;generalize P.mu=p3 at *;generalize aa P.df=p4 at *;clear hb;go_wp2_with (at_builtin;refine wpList_append_lies _ rfl _ _ 54 rfl W1.heap.size 31 i0 _ 5 64 Tryz.underlying54 hi hz0 hz1 hz2 (by rfl) (by decide) u4 k (aR (L.take k)) rfl (hown.alloc _) ⟨w2.heap.size,0,none⟩ 1 1 [.string p0,.int .i64 p1,.string p2,.bool p3,.string p4] rfl rfl (bk _ _ _) (qtF _ _ _ _ _) ?_ ?_ ?_ ?_ _ rfl ?_;omega;(unfold maxLen;omega);omega;(have:=HBS.out;simp;omega);intro g cap w3 hown3 hg3 hat hgl)
    have HO3:=zh (show w3.ownsRow W1.heap.size 31 5 (.slice (some ⟨g,0,none⟩) (k+1) cap) (k+1) (aR (L.take (k+1))) by
     rw [HTK.out,HPC.out];exact hown3)
    have HB3:=zh (show Below W1.heap.size W1 w3 from (HB2.out.alloc HBS.out _).grown hg3 (by have:=HBS.out;simp;omega) (fun k hk=>(hown.lt k hk).1));clear hown hown3 hg3 hat;go_wp2_with fail;go_roundw
    case rel=>exact ⟨k+1,by go_num,by omega,HO3.out,HB3.out⟩
    case measure=>simp [intOf];omega
   ·have t1:decide ((k:Int)<(n:Int))=false:=zF (by omega);have t2:decide (k<n)=false:=zF hlt;have HLE:=zh (show k=L.length by rw [HLN.out,HN.out];omega);have HO3:=zh (show wr.ownsRow w.heap.size 31 5 u4 L.length (aR L) by
     have h:=HRW.out;rw [HLE.out,List.take_of_length_le (Nat.le_refl _)] at h;exact qeC h HB1.out.size)
    go_wp2_with fail;go_ret;exact ⟨_,rfl,HO3.out,HB1.out.trans (HBE.out.mono HB1.out.size)⟩
def qhd (o:Option Pr):Value:=match o with
 | some p=> .tuple #[prV p,.bool true]
 | none=> .tuple #[prV Pr.zero,.bool false]
theorem qiw {L:List Pr} {n:List UInt8} {k:Nat} (hk:k<L.length) (h:L[k].nm=n) (h2:∀ j (hj:j<L.length),j<k→L[j].nm≠n):bC L n=some L[k]:=by
 unfold bC;induction L generalizing k with
 | nil=>simp at hk
 | cons a r ih=>
  cases k with
  | zero=>
   have h':a.nm=n:=h;rw [List.find?_cons,zT h'];rfl
  | succ j=>
   have h3:a.nm≠n:=h2 0 (by simp) (by omega);rw [List.find?_cons,zF h3];exact ih (k:=j) (by simpa using hk) h (fun i hi hij=>h2 (i+1) (by simpa using hi) (by omega))
theorem qfD {L:List Pr} {n:List UInt8} (h:∀ j (hj:j<L.length),L[j].nm≠n):bC L n=none:=by
 unfold bC;rw [List.find?_eq_none];intro p hp;obtain ⟨j,hj,rfl⟩:=List.getElem_of_mem hp
 simpa using h j hj
theorem qmf (X N:ByteArray) (w:World):Calls Tryz.prog 8 #[.string X,.string N] w (fun e w'=>e = .returned (qhd (bC (ae X.data.toList) N.data.toList))∧Below w.heap.size w w'):=by
 obtain ⟨W0,hW0⟩:∃ W0,W0=w.alloc (.cells #[.string ⟨#[]⟩,.int .i64 0,.string ⟨#[]⟩,.bool false,.string ⟨#[]⟩] 31):=⟨_,rfl⟩
 have HB0:=zh (show Below w.heap.size w W0 by rw [hW0];exact (Below.refl _ _).alloc (Nat.le_refl _) _);have HS0:=zh (show W0.heap.size=w.heap.size+1 by rw [hW0,dW]);have HR0:=zh (show W0.heap[w.heap.size]? = some (.cells #[.string ⟨#[]⟩,.int .i64 0,.string ⟨#[]⟩,.bool false,.string ⟨#[]⟩] 31 (0,0)) by rw [hW0];exact heap_alloc_new _ _);have HW0:=zh hW0;clear hW0;have HP:=zh (fun W=>qj5 X W);have HPL:=zh (show (ae X.data.toList).length≤701 by
  unfold ae;split
  ·simp
  ·rw [qf6,List.length_map];have:=qa9 59 (bf X.data.toList);have:=qkv X.data.toList;omega)
 generalize ae X.data.toList=L at *;obtain ⟨nm,hnm⟩:∃ nm,N.data.toList=nm:=⟨_,rfl⟩
 have HNM:=zh (show N.toList=nm by rw [ByteArray.toList_eq];exact hnm);rw [hnm];clear hnm;obtain ⟨n,hn⟩:∃ n,L.length=n:=⟨_,rfl⟩
 have HN:=zh hn;have hn2:n≤701:=by have:=HPL.out;omega
 clear hn;go_enter Tryz.func8,Tryz.ntmps8;go_wp2_with fail;rw [←HW0.out];refine (HP.out _).mono ?_;rintro e W1 ⟨v,rfl,hown,hb⟩;have HB1:=zh hb;have HRD:=zh (RdP.of_own hown);obtain ⟨A,cp,rfl, -⟩:=RdP.of_own hown;rw [HN.out];have HWB:=zh (show Below w.heap.size w W1 from HB0.out.trans (hb.mono HB0.out.size));have hrr:W1.heap[w.heap.size]? = some (.cells #[.string ⟨#[]⟩,.int .i64 0,.string ⟨#[]⟩,.bool false,.string ⟨#[]⟩] 31 (0,0)):=
  (hb.block w.heap.size (by have:=HS0.out;omega)).trans HR0.out
 have HRR:=zh hrr;obtain ⟨⟨r0,r1,r2,r3,r4⟩,⟨e0,e1,e2,e3,e4⟩⟩:=aO hrr;clear hown hb hrr;go_wp2_with fail;go_loopw [7] (fun i wr=>∃ k:Nat,i = .int .i64 (k:Int)∧k≤n∧Aside (∀ j (h:j<L.length),j<k→L[j].nm≠nm)∧Aside (W1=wr)) (fun i _=>n-(intOf i).toNat)
 case atStart=>exact ⟨0,rfl,by omega,(show ∀ _ _ _,_ from fun j h hj=>by omega),(show _=_ from rfl)⟩
 case round=>
  obtain ⟨k,rfl,hk,hno,hw⟩:=hrel;have HNO:=zh hno.out;obtain rfl:W1=wr:=hw.out;clear hno hw;by_cases hlt:k<n
  ·have t1:decide ((k:Int)<(n:Int))=true:=zT (by omega);have t2:decide (k<n)=true:=zT hlt;have k0:(0:Int)≤(k:Int):=by omega
   have k1:(k:Int)<(n:Int):=by omega
   have k2:((k:Int)).toNat=k:=by omega
   have hkL:k<L.length:=by rw [HN.out];exact hlt
   obtain ⟨g,c,hA,hg,hp5⟩:=HRD.out.at_ k hkL;injection hA with hA1 _ _
   subst hA1;obtain ⟨p0,p1,p2,p3,p4⟩:=hp5;by_cases hx:L[k].nm=nm
   ·have u1:((aa L[k].nm).toList==N.toList)=true:=by rw [ah,HNM.out,hx];exact beq_self_eq_true _
    have u2:(aa L[k].nm).toList=N.toList:=by rw [ah,HNM.out,hx]
    have HF:=zh (qiw hkL hx (fun j hj hjk=>HNO.out j hj hjk));have HV:=zh (show qhd (some L[k]) = .tuple #[.agg #[.string (aa L[k].nm),.int .i64 L[k].fm,.string (aa L[k].ar),.bool L[k].mu,.string (aa L[k].df)],.bool true] from rfl);generalize aa L[k].nm=q0 at *;generalize L[k].fm=q1 at *;generalize aa L[k].ar=q2 at *;generalize L[k].mu=q3 at *;generalize aa L[k].df=q4 at *;clear hx;go_wp2;refine bodyPost_ret (qrt rfl rfl rfl (qc0 HRR.out (.string q0) (.int .i64 q1) (.string q2) (.bool q3) (.string q4))) rfl ?_;exact ⟨by rw [HF.out,HV.out];rfl,ft HWB.out (Nat.le_refl _) _ _ _ _ _⟩
   ·have u1:((aa L[k].nm).toList==N.toList)=false:=by rw [ah,HNM.out];exact beq_eq_false_iff_ne.2 hx
    have u2:¬(aa L[k].nm).toList=N.toList:=by rw [ah,HNM.out];exact hx
    have HNX:=zh (show ∀ j (h:j<L.length),j<k+1→L[j].nm≠nm from fun j h hj=>by
     by_cases e:j=k
     ·subst e;exact hx
     ·exact HNO.out j h (by omega))
    generalize aa L[k].nm=q0 at *;clear hx p1 p2 p3 p4;go_wp2_with fail;go_roundw
    case rel=>exact ⟨k+1,by go_num,by omega,HNX.out,(show True from trivial)⟩
    case measure=>simp [intOf];omega
  ·have t1:decide ((k:Int)<(n:Int))=false:=zF (by omega);have t2:decide (k<n)=false:=zF hlt;have HF:=zh (qfD (L:=L) (n:=nm) (fun j hj=>HNO.out j hj (by rw [HN.out] at hj;omega)));go_wp2;refine bodyPost_ret (qrt rfl rfl rfl (qc0 HRR.out (.string ⟨#[]⟩) (.int .i64 0) (.string ⟨#[]⟩) (.bool false) (.string ⟨#[]⟩))) rfl ?_;exact ⟨by rw [HF.out];rfl,ft HWB.out (Nat.le_refl _) _ _ _ _ _⟩
