/- Merged: TrS7 TrS5 TrS8 TrS9. -/
import Derived.Test.YtnecfkhbncepnaaGreatDoorTt15
set_option maxRecDepth 1000000
set_option maxHeartbeats 16000000
namespace Go.Proofs.YtnecfkhbncepnaaGreatDoor
namespace Tr
open Go.Proofs Go.RowKit Go.Sort Go.Shelf Go.Lib Utf
/-- THE RIGHT PART IS THE LONGER ONE -/
theorem qia (blk off cap a m b:Nat) (d0 d:Array M6) (w0 w:World) (R:RowK aj 6 w0 blk off d0) (hs:d.size=d0.size) (S:SWK aj 6 w0 blk off d w) (h1:a<m) (h2:m<b) (h3:b≤d.size) (hsz:d.size<4611686018427387904)
  (s1:SortedIn (ltOf cfM) a m d) (s2:SortedIn (ltOf cfM) m b d) (hna:a+1<m) (hnb:m+1<b) (mid:Nat) (hmid:mid=(a+b) / 2) (hc:m≤mid) (IH:∀ (a' m' b':Nat) (d':Array M6) (w':World),d'.size=d.size→SWK aj 6 w0 blk off d' w'→a'<m'→m'<b'→b'≤d.size→b'-a'<b-a→SortedIn (ltOf cfM) a' m' d'→SortedIn (ltOf cfM) m' b' d'→
   Calls Tryz.prog 188 #[.slice (some ⟨blk,off,none⟩) d.size cap,.int .i64 a',.int .i64 m',.int .i64 b',.func (.func 115) #[] #[]] w' fun e w''=>e = .returned (.tuple #[])∧∃ d'',SWK aj 6 w0 blk off d'' w''∧PermIn a' b' d' d''∧SortedIn (ltOf cfM) a' b' d'') :
  Calls Tryz.prog 188 #[.slice (some ⟨blk,off,none⟩) d.size cap,.int .i64 a,.int .i64 m,.int .i64 b,.func (.func 115) #[] #[]] w fun e w'=>e = .returned (.tuple #[])∧∃ d',SWK aj 6 w0 blk off d' w'∧PermIn a b d d'∧SortedIn (ltOf cfM) a b d':=by
 have mixed:=cT;have HS0:Aside (d.size=d0.size):=hs;have S0:Aside (SWK aj 6 w0 blk off d w):=S;have Q1:Aside _:=s1;have Q2:Aside _:=s2;have e58:∀ args w,(callFunc 115 args).run Tryz.prog w = .ok (.enter 115 args) w:=enters_of Tryz.func115 (by kernel_rfl) rfl;clear S hs s1 s2;have JH:Aside _:=IH;clear IH;have IH:=JH;clear JH;have u1:(((m:Int)-(a:Int))==1)=false:=by rw [beq_eq_false_iff_ne];omega
 have u1b:¬(m:Int)-(a:Int)=1:=by omega
 have u1c:(((b:Int)-(m:Int))==1)=false:=by rw [beq_eq_false_iff_ne];omega
 have u1d:¬(b:Int)-(m:Int)=1:=by omega
 have wmid:((a:Int)+(b:Int)) / 2=(mid:Int):=by omega
 have m1:2*mid≤a+b:=by omega
 have m2:a+b≤2*mid+1:=by omega
 have HMID:Aside (mid=(a+b) / 2):=hmid;clear hmid;obtain ⟨n,hn⟩:∃ n,n=mid+m:=⟨_,rfl⟩
 have wn:IntKind.i64.wrap ((mid:Int)+(m:Int))=(n:Int):=by rw [IntKind.wrap_i64];omega
 have wn2:(mid:Int)+(m:Int)=(n:Int):=by omega
 have n1:n≤mid+m:=by omega
 have n2:mid+m≤n:=by omega
 have HN:Aside (n=mid+m):=hn;clear hn;obtain ⟨p,hp⟩:∃ p,n=p+1:=⟨n-1,by omega⟩
 have wp:IntKind.i64.wrap ((n:Int)-1)=(p:Int):=by rw [IntKind.wrap_i64];omega
 have wp2:(n:Int)-1=(p:Int):=by omega
 have p1:n≤p+1:=by omega
 have p2:p+1≤n:=by omega
 have HP:Aside (p=mid+m-1):=(show _=_ by have:=HN.out;omega)
 clear hp;have u2a:decide ((mid:Int)<(m:Int))=false:=zF (by omega);have u2b:decide (mid<m)=false:=zF (by omega);have u2c:¬((mid:Int)<(m:Int)):=by omega
 go_enter Tryz.func188,Tryz.ntmps188;go_wp2_with fail;go_loopw [20,21] (fun si sj wr=>∃ i j:Nat,si = .int .i64 i∧sj = .int .i64 j∧a≤i∧i≤j∧j≤m∧Aside (SWK aj 6 w0 blk off d wr)∧Aside ((∀ c,a≤c→c<i→ltOf cfM d[p-c]! d[c]! = false)∧(∀ c,j≤c→c<m→ltOf cfM d[p-c]! d[c]! = true))) (fun si sj _=>(intOf sj).toNat-(intOf si).toNat)
 case atStart=>exact ⟨a,m,rfl,rfl,by omega,by omega,by omega,S0,(show _∧_ from ⟨fun x g1 g2=>by omega,fun x g1 g2=>by omega⟩)⟩
 case round=>
  clear S0;obtain ⟨i,j,rfl,rfl,hai,hij,hjm,S,I⟩:=hrel;by_cases hlt:i<j
  ·have t2:decide ((i:Int)<(j:Int))=true:=zT (by omega);have t3:decide (i<j)=true:=zT hlt;obtain ⟨c,hhc⟩:∃ z,z=(i+j) / 2:=⟨_,rfl⟩
   have wc:((i:Int)+(j:Int)) / 2=(c:Int):=by omega
   have loc:i≤c:=by omega
   have upc:c<j:=by omega
   clear hhc;obtain ⟨q,hq⟩:∃ q,q+c=p:=⟨p-c,by omega⟩
   have wq:IntKind.i64.wrap ((p:Int)-(c:Int))=(q:Int):=by rw [IntKind.wrap_i64];omega
   have wq2:(p:Int)-(c:Int)=(q:Int):=by omega
   have wq3:IntKind.i64.wrap (q:Int)=(q:Int):=by rw [IntKind.wrap_i64];omega
   have q1:q+c≤p:=by omega
   have q2:p≤q+c:=by omega
   have HQ:Aside (p-c=q):=(show _=_ by omega)
   clear hq;have qm:m≤q:=by omega
   have qb:q<b:=by omega
   have cm:c<m:=by omega
   have pic:(0:Int)≤(c:Int):=by omega
   have bic:(c:Int)<(d.size:Int):=by omega
   have eic:((c:Int)).toNat=c:=by omega
   have piq:(0:Int)≤(q:Int):=by omega
   have biq:(q:Int)<(d.size:Int):=by omega
   have eiq:((q:Int)).toNat=q:=by omega
   cases hG:ltOf cfM d[q]! d[c]! with
   | true=>
    have HG:Aside _:=hG;obtain ⟨x8,hx8⟩:∃ x,x=d[q]!:=⟨_,rfl⟩
    obtain ⟨y8,hy8⟩:∃ x,x=d[c]!:=⟨_,rfl⟩
    have kx8:=bR S.out R HS0.out q (by omega);have ky8:=bR S.out R HS0.out c (by omega);have hc8:=SWK.cmp (P:=Tryz.prog) S.out (bh blk off d0.size w0) HS0.out x8 y8;rw [←hx8] at kx8;rw [←hy8] at ky8;have hv8:cfM x8 y8<0:=by rw [hx8,hy8];exact of_decide_eq_true hG
    have hd8:decide (cfM x8 y8<0)=true:=zT hv8;clear hx8 hy8;generalize cfM x8 y8=r8 at hc8 hv8 hd8;obtain ⟨xx8,xk8,xn8,xs8,xA8,xl8,xc8,xB8,xm8,xd8⟩:=x8;obtain ⟨yx8,yk8,yn8,ys8,yA8,yl8,yc8,yB8,ym8,yd8⟩:=y8;simp only [aj] at hc8;simp only [C6g] at kx8 ky8;generalize aa xx8=X8 at *;generalize aa yx8=Y8 at *;obtain ⟨a08,a18,a28,a38,a48,a58⟩:=kx8;obtain ⟨b08,b18,b28,b38,b48,b58⟩:=ky8;clear hG;go_wp2_with fail;go_quiet_grown (first | (go_at_fn 115;refine Calls.grown_of (hc8 _ _)))
    have S2:Aside (SWK aj 6 w0 blk off d (grow (wr.drewN nq) osq)):=S.out.grown nq osq;clear a08 a18 a28 a38 a48 a58 b08 b18 b28 b38 b48 b58 hc8 S;generalize grow (wr.drewN nq) osq=w2 at S2 ⊢;clear nq osq;go_wp2;go_roundw
    case rel=>
     refine ⟨i,c,rfl,rfl,hai,by omega,by omega,S2,?_⟩;refine (show _∧_ from ⟨I.out.1,fun x g1 g2=>?_⟩);have k1:=aY aK Q1.out (show a≤c by omega) g1 (by omega);have k2:=aY aK Q2.out (show m≤p-x by omega) (show p-x≤q by omega) (by omega);cases hq:ltOf cfM d[p-x]! d[x]! with
     | true=>rfl
     | false=>have:=aK.ntrans _ _ _ k2 (aK.ntrans _ _ _ hq k1);rw [HG.out] at this;cases this
    case measure=>simp [intOf];omega
   | false=>
    have HG:Aside _:=hG;obtain ⟨x8,hx8⟩:∃ x,x=d[q]!:=⟨_,rfl⟩
    obtain ⟨y8,hy8⟩:∃ x,x=d[c]!:=⟨_,rfl⟩
    have kx8:=bR S.out R HS0.out q (by omega);have ky8:=bR S.out R HS0.out c (by omega);have hc8:=SWK.cmp (P:=Tryz.prog) S.out (bh blk off d0.size w0) HS0.out x8 y8;rw [←hx8] at kx8;rw [←hy8] at ky8;have hv8:¬cfM x8 y8<0:=by rw [hx8,hy8];exact of_decide_eq_false hG
    have hd8:decide (cfM x8 y8<0)=false:=zF hv8;clear hx8 hy8;generalize cfM x8 y8=r8 at hc8 hv8 hd8;obtain ⟨xx8,xk8,xn8,xs8,xA8,xl8,xc8,xB8,xm8,xd8⟩:=x8;obtain ⟨yx8,yk8,yn8,ys8,yA8,yl8,yc8,yB8,ym8,yd8⟩:=y8;simp only [aj] at hc8;simp only [C6g] at kx8 ky8;generalize aa xx8=X8 at *;generalize aa yx8=Y8 at *;obtain ⟨a08,a18,a28,a38,a48,a58⟩:=kx8;obtain ⟨b08,b18,b28,b38,b48,b58⟩:=ky8;clear hG;go_wp2_with fail;go_quiet_grown (first | (go_at_fn 115;refine Calls.grown_of (hc8 _ _)))
    have S2:Aside (SWK aj 6 w0 blk off d (grow (wr.drewN nq) osq)):=S.out.grown nq osq;clear a08 a18 a28 a38 a48 a58 b08 b18 b28 b38 b48 b58 hc8 S;generalize grow (wr.drewN nq) osq=w2 at S2 ⊢;clear nq osq;go_wp2;go_roundw
    case rel=>
     refine ⟨c+1,j,by go_num,rfl,by omega,by omega,hjm,S2,?_⟩;refine (show _∧_ from ⟨fun x g1 g2=>?_,I.out.2⟩);have k1:=aY aK Q1.out (show a≤x by omega) (show x≤c by omega) (by omega);have k2:=aY aK Q2.out (show m≤q by omega) (show q≤p-x by omega) (by omega);exact aK.ntrans _ _ _ k2 (aK.ntrans _ _ _ HG.out k1)
    case measure=>simp [intOf];omega
  ·obtain ⟨st,hst⟩:∃ st,st=i:=⟨_,rfl⟩
   have hji:j=i:=by omega
   subst hji;subst hst;have t2:decide ((st:Int)<(st:Int))=false:=zF (by omega);have t3:decide (st<st)=false:=zF (by omega);clear hlt;obtain ⟨en,hen⟩:∃ en,en+st=n:=⟨n-st,by omega⟩
   have we:IntKind.i64.wrap ((n:Int)-(st:Int))=(en:Int):=by rw [IntKind.wrap_i64];omega
   have we2:(n:Int)-(st:Int)=(en:Int):=by omega
   have e1:en+st≤n:=by omega
   have e2:n≤en+st:=by omega
   have HE:Aside (mid+m-st=en):=(show _=_ by have:=HN.out;omega)
   clear hen;have hmen:m≤en:=by omega
   have henb:en≤b:=by omega
   have hast:a≤st:=by omega
   have hstm:st≤mid:=by omega
   have hmen2:mid≤en:=by omega
   have Xc:=qbz aK HMID.out h1 h2 h3 Q1.out Q2.out (.inl ⟨hc,rfl,rfl⟩) hai hjm (by rw [←HP.out];exact I.out.1) (by rw [←HP.out];exact I.out.2);have CUT:Aside _:=fun {d2 d3:Array M6} p1=>qhy (d2:=d2) (d3:=d3) aK HMID.out h1 h2 h3 Q1.out Q2.out (.inl ⟨hc,rfl,rfl⟩) hai hjm (by rw [←HP.out];exact I.out.1) (by rw [←HP.out];exact I.out.2) p1;rw [HE.out] at Xc CUT;obtain ⟨d1,hd1⟩:∃ d1,bI d st m en=d1:=⟨_,rfl⟩
   have D1:Aside (d1.size=d.size):=(show _=_ by rw [←hd1];exact ay _ _ _ _)
   rw [hd1] at Xc CUT;have X1:Aside (SortedIn (ltOf cfM) a st d1∧SortedIn (ltOf cfM) st mid d1):=⟨Xc.1,Xc.2.1⟩
   have X:Aside (SortedIn (ltOf cfM) mid en d1∧SortedIn (ltOf cfM) en b d1∧True):=⟨Xc.2.2.1,Xc.2.2.2.1,trivial⟩
   clear Xc;by_cases g1:st<m
   ·have t1a:decide ((st:Int)<(m:Int))=true:=zT (by omega);have t1b:decide (st<m)=true:=zT (by omega);have t1c:((st:Int)<(m:Int)):=by omega
    by_cases g2:m<en
    ·have t2a:decide ((m:Int)<(en:Int))=true:=zT (by omega);have t2b:decide (m<en)=true:=zT (by omega);have t2c:((m:Int)<(en:Int)):=by omega
     have HCC:=zh (qeT blk off cap st m en (.func (.func 115) #[] #[]) d0 d w0 wr R HS0.out S.out g1 g2 (by omega) hsz);clear S;go_wp2_with fail;refine HCC.out.mono ?_;rintro e w7 ⟨rfl,hS1,hP1⟩;rw [hd1] at hS1 hP1;have S7:Aside _:=hS1;have P1:Aside (PermIn st en d d1):=hP1;clear hS1 hP1 HCC;have cutd:=fun {d2 d3:Array M6}=>CUT.out (d2:=d2) (d3:=d3) P1.out;clear hd1;by_cases g3:a<st
     ·have t3a:decide ((a:Int)<(st:Int))=true:=zT (by omega);have t3b:decide (a<st)=true:=zT (by omega);have t3c:((a:Int)<(st:Int)):=by omega
      by_cases g4:st<mid
      ·have t4a:decide ((st:Int)<(mid:Int))=true:=zT (by omega);have t4b:decide (st<mid)=true:=zT (by omega);have t4c:((st:Int)<(mid:Int)):=by omega
       have HCC:=zh (IH.out a st mid d1 w7 D1.out S7.out g3 g4 (by omega) (by omega) X1.out.1 X1.out.2);clear S7;go_wp2_with fail;refine HCC.out.mono ?_;rintro e w8 ⟨rfl,d2,hS2,hP2,hT2⟩;have S8:Aside _:=hS2;have D2:Aside (d2.size=d.size):=hP2.1.trans D1.out;have P2:Aside (PermIn a mid d1 d2):=hP2;have C2:Aside (SortedIn (ltOf cfM) a mid d2∨(d2=d1∧(st≤a∨mid≤st))):= .inl hT2;clear hS2 hP2 hT2 HCC;by_cases g5:mid<en
       ·have t5a:decide ((mid:Int)<(en:Int))=true:=zT (by omega);have t5b:decide (mid<en)=true:=zT (by omega);have t5c:((mid:Int)<(en:Int)):=by omega
        by_cases g6:en<b
        ·have t6a:decide ((en:Int)<(b:Int))=true:=zT (by omega);have t6b:decide (en<b)=true:=zT (by omega);have t6c:((en:Int)<(b:Int)):=by omega
         have HCC:=zh (IH.out mid en b d2 w8 D2.out S8.out g5 g6 h3 (by omega) (ab X.out.1 (fun i i1 i2=>P2.out.2.1 i (by omega))) (ab X.out.2.1 (fun i i1 i2=>P2.out.2.1 i (by omega))));clear S8;go_wp2_with fail;refine HCC.out.mono ?_;rintro e w9 ⟨rfl,d3,hS3,hP3,hT3⟩;have S9:Aside _:=hS3;have P3:Aside _:=hP3;have T3:Aside _:=hT3;clear hS3 hP3 hT3 HCC;go_wp2;go_end0
         exact ⟨rfl,d3,S9.out,cutd P2.out C2.out P3.out (.inl T3.out)⟩
        ·have t6a:decide ((en:Int)<(b:Int))=false:=zF (by omega);have t6b:decide (en<b)=false:=zF (by omega);have t6c:¬((en:Int)<(b:Int)):=by omega
         go_wp2;go_end0
         exact ⟨rfl,d2,S8.out,cutd P2.out C2.out (permIn_refl _ _ _) (.inr ⟨rfl,by omega⟩)⟩
       ·have t5a:decide ((mid:Int)<(en:Int))=false:=zF (by omega);have t5b:decide (mid<en)=false:=zF (by omega);have t5c:¬((mid:Int)<(en:Int)):=by omega
        go_wp2;go_end0
        exact ⟨rfl,d2,S8.out,cutd P2.out C2.out (permIn_refl _ _ _) (.inr ⟨rfl,by omega⟩)⟩
      ·have t4a:decide ((st:Int)<(mid:Int))=false:=zF (by omega);have t4b:decide (st<mid)=false:=zF (by omega);have t4c:¬((st:Int)<(mid:Int)):=by omega
       obtain ⟨d2,hd2⟩:∃ d2,d2=d1:=⟨_,rfl⟩
       have S8:Aside (SWK aj 6 w0 blk off d2 w7):=hd2▸S7.out;have D2:Aside (d2.size=d.size):=hd2▸D1.out;have P2:Aside (PermIn a mid d1 d2):=hd2▸permIn_refl _ _ _;have C2:Aside (SortedIn (ltOf cfM) a mid d2∨(d2=d1∧(st≤a∨mid≤st))):= .inr ⟨hd2,by omega⟩;clear S7 hd2;by_cases g5:mid<en
       ·have t5a:decide ((mid:Int)<(en:Int))=true:=zT (by omega);have t5b:decide (mid<en)=true:=zT (by omega);have t5c:((mid:Int)<(en:Int)):=by omega
        by_cases g6:en<b
        ·have t6a:decide ((en:Int)<(b:Int))=true:=zT (by omega);have t6b:decide (en<b)=true:=zT (by omega);have t6c:((en:Int)<(b:Int)):=by omega
         have HCC:=zh (IH.out mid en b d2 w7 D2.out S8.out g5 g6 h3 (by omega) (ab X.out.1 (fun i i1 i2=>P2.out.2.1 i (by omega))) (ab X.out.2.1 (fun i i1 i2=>P2.out.2.1 i (by omega))));clear S8;go_wp2_with fail;refine HCC.out.mono ?_;rintro e w9 ⟨rfl,d3,hS3,hP3,hT3⟩;have S9:Aside _:=hS3;have P3:Aside _:=hP3;have T3:Aside _:=hT3;clear hS3 hP3 hT3 HCC;go_wp2;go_end0
         exact ⟨rfl,d3,S9.out,cutd P2.out C2.out P3.out (.inl T3.out)⟩
        ·have t6a:decide ((en:Int)<(b:Int))=false:=zF (by omega);have t6b:decide (en<b)=false:=zF (by omega);have t6c:¬((en:Int)<(b:Int)):=by omega
         go_wp2;go_end0
         exact ⟨rfl,d2,S8.out,cutd P2.out C2.out (permIn_refl _ _ _) (.inr ⟨rfl,by omega⟩)⟩
       ·have t5a:decide ((mid:Int)<(en:Int))=false:=zF (by omega);have t5b:decide (mid<en)=false:=zF (by omega);have t5c:¬((mid:Int)<(en:Int)):=by omega
        go_wp2;go_end0
        exact ⟨rfl,d2,S8.out,cutd P2.out C2.out (permIn_refl _ _ _) (.inr ⟨rfl,by omega⟩)⟩
     ·have t3a:decide ((a:Int)<(st:Int))=false:=zF (by omega);have t3b:decide (a<st)=false:=zF (by omega);have t3c:¬((a:Int)<(st:Int)):=by omega
      obtain ⟨d2,hd2⟩:∃ d2,d2=d1:=⟨_,rfl⟩
      have S8:Aside (SWK aj 6 w0 blk off d2 w7):=hd2▸S7.out;have D2:Aside (d2.size=d.size):=hd2▸D1.out;have P2:Aside (PermIn a mid d1 d2):=hd2▸permIn_refl _ _ _;have C2:Aside (SortedIn (ltOf cfM) a mid d2∨(d2=d1∧(st≤a∨mid≤st))):= .inr ⟨hd2,by omega⟩;clear S7 hd2;by_cases g5:mid<en
      ·have t5a:decide ((mid:Int)<(en:Int))=true:=zT (by omega);have t5b:decide (mid<en)=true:=zT (by omega);have t5c:((mid:Int)<(en:Int)):=by omega
       by_cases g6:en<b
       ·have t6a:decide ((en:Int)<(b:Int))=true:=zT (by omega);have t6b:decide (en<b)=true:=zT (by omega);have t6c:((en:Int)<(b:Int)):=by omega
        have HCC:=zh (IH.out mid en b d2 w7 D2.out S8.out g5 g6 h3 (by omega) (ab X.out.1 (fun i i1 i2=>P2.out.2.1 i (by omega))) (ab X.out.2.1 (fun i i1 i2=>P2.out.2.1 i (by omega))));clear S8;go_wp2_with fail;refine HCC.out.mono ?_;rintro e w9 ⟨rfl,d3,hS3,hP3,hT3⟩;have S9:Aside _:=hS3;have P3:Aside _:=hP3;have T3:Aside _:=hT3;clear hS3 hP3 hT3 HCC;go_wp2;go_end0
        exact ⟨rfl,d3,S9.out,cutd P2.out C2.out P3.out (.inl T3.out)⟩
       ·have t6a:decide ((en:Int)<(b:Int))=false:=zF (by omega);have t6b:decide (en<b)=false:=zF (by omega);have t6c:¬((en:Int)<(b:Int)):=by omega
        go_wp2;go_end0
        exact ⟨rfl,d2,S8.out,cutd P2.out C2.out (permIn_refl _ _ _) (.inr ⟨rfl,by omega⟩)⟩
      ·have t5a:decide ((mid:Int)<(en:Int))=false:=zF (by omega);have t5b:decide (mid<en)=false:=zF (by omega);have t5c:¬((mid:Int)<(en:Int)):=by omega
       go_wp2;go_end0
       exact ⟨rfl,d2,S8.out,cutd P2.out C2.out (permIn_refl _ _ _) (.inr ⟨rfl,by omega⟩)⟩
    ·have t2a:decide ((m:Int)<(en:Int))=false:=zF (by omega);have t2b:decide (m<en)=false:=zF (by omega);have t2c:¬((m:Int)<(en:Int)):=by omega
     have hrn:d1=d:=by rw [←hd1];exact qbO (by omega) (by omega) (by omega)
     have S7:Aside (SWK aj 6 w0 blk off d1 wr):=hrn▸S.out;have P1:Aside (PermIn st en d d1):=hrn▸permIn_refl _ _ _;clear hrn S;have cutd:=fun {d2 d3:Array M6}=>CUT.out (d2:=d2) (d3:=d3) P1.out;clear hd1;by_cases g3:a<st
     ·have t3a:decide ((a:Int)<(st:Int))=true:=zT (by omega);have t3b:decide (a<st)=true:=zT (by omega);have t3c:((a:Int)<(st:Int)):=by omega
      by_cases g4:st<mid
      ·have t4a:decide ((st:Int)<(mid:Int))=true:=zT (by omega);have t4b:decide (st<mid)=true:=zT (by omega);have t4c:((st:Int)<(mid:Int)):=by omega
       have HCC:=zh (IH.out a st mid d1 wr D1.out S7.out g3 g4 (by omega) (by omega) X1.out.1 X1.out.2);clear S7;go_wp2_with fail;refine HCC.out.mono ?_;rintro e w8 ⟨rfl,d2,hS2,hP2,hT2⟩;have S8:Aside _:=hS2;have D2:Aside (d2.size=d.size):=hP2.1.trans D1.out;have P2:Aside (PermIn a mid d1 d2):=hP2;have C2:Aside (SortedIn (ltOf cfM) a mid d2∨(d2=d1∧(st≤a∨mid≤st))):= .inl hT2;clear hS2 hP2 hT2 HCC;by_cases g5:mid<en
       ·have t5a:decide ((mid:Int)<(en:Int))=true:=zT (by omega);have t5b:decide (mid<en)=true:=zT (by omega);have t5c:((mid:Int)<(en:Int)):=by omega
        by_cases g6:en<b
        ·have t6a:decide ((en:Int)<(b:Int))=true:=zT (by omega);have t6b:decide (en<b)=true:=zT (by omega);have t6c:((en:Int)<(b:Int)):=by omega
         have HCC:=zh (IH.out mid en b d2 w8 D2.out S8.out g5 g6 h3 (by omega) (ab X.out.1 (fun i i1 i2=>P2.out.2.1 i (by omega))) (ab X.out.2.1 (fun i i1 i2=>P2.out.2.1 i (by omega))));clear S8;go_wp2_with fail;refine HCC.out.mono ?_;rintro e w9 ⟨rfl,d3,hS3,hP3,hT3⟩;have S9:Aside _:=hS3;have P3:Aside _:=hP3;have T3:Aside _:=hT3;clear hS3 hP3 hT3 HCC;go_wp2;go_end0
         exact ⟨rfl,d3,S9.out,cutd P2.out C2.out P3.out (.inl T3.out)⟩
        ·have t6a:decide ((en:Int)<(b:Int))=false:=zF (by omega);have t6b:decide (en<b)=false:=zF (by omega);have t6c:¬((en:Int)<(b:Int)):=by omega
         go_wp2;go_end0
         exact ⟨rfl,d2,S8.out,cutd P2.out C2.out (permIn_refl _ _ _) (.inr ⟨rfl,by omega⟩)⟩
       ·have t5a:decide ((mid:Int)<(en:Int))=false:=zF (by omega);have t5b:decide (mid<en)=false:=zF (by omega);have t5c:¬((mid:Int)<(en:Int)):=by omega
        go_wp2;go_end0
        exact ⟨rfl,d2,S8.out,cutd P2.out C2.out (permIn_refl _ _ _) (.inr ⟨rfl,by omega⟩)⟩
      ·have t4a:decide ((st:Int)<(mid:Int))=false:=zF (by omega);have t4b:decide (st<mid)=false:=zF (by omega);have t4c:¬((st:Int)<(mid:Int)):=by omega
       obtain ⟨d2,hd2⟩:∃ d2,d2=d1:=⟨_,rfl⟩
       have S8:Aside (SWK aj 6 w0 blk off d2 wr):=hd2▸S7.out;have D2:Aside (d2.size=d.size):=hd2▸D1.out;have P2:Aside (PermIn a mid d1 d2):=hd2▸permIn_refl _ _ _;have C2:Aside (SortedIn (ltOf cfM) a mid d2∨(d2=d1∧(st≤a∨mid≤st))):= .inr ⟨hd2,by omega⟩;clear S7 hd2;by_cases g5:mid<en
       ·have t5a:decide ((mid:Int)<(en:Int))=true:=zT (by omega);have t5b:decide (mid<en)=true:=zT (by omega);have t5c:((mid:Int)<(en:Int)):=by omega
        by_cases g6:en<b
        ·have t6a:decide ((en:Int)<(b:Int))=true:=zT (by omega);have t6b:decide (en<b)=true:=zT (by omega);have t6c:((en:Int)<(b:Int)):=by omega
         have HCC:=zh (IH.out mid en b d2 wr D2.out S8.out g5 g6 h3 (by omega) (ab X.out.1 (fun i i1 i2=>P2.out.2.1 i (by omega))) (ab X.out.2.1 (fun i i1 i2=>P2.out.2.1 i (by omega))));clear S8;go_wp2_with fail;refine HCC.out.mono ?_;rintro e w9 ⟨rfl,d3,hS3,hP3,hT3⟩;have S9:Aside _:=hS3;have P3:Aside _:=hP3;have T3:Aside _:=hT3;clear hS3 hP3 hT3 HCC;go_wp2;go_end0
         exact ⟨rfl,d3,S9.out,cutd P2.out C2.out P3.out (.inl T3.out)⟩
        ·have t6a:decide ((en:Int)<(b:Int))=false:=zF (by omega);have t6b:decide (en<b)=false:=zF (by omega);have t6c:¬((en:Int)<(b:Int)):=by omega
         go_wp2;go_end0
         exact ⟨rfl,d2,S8.out,cutd P2.out C2.out (permIn_refl _ _ _) (.inr ⟨rfl,by omega⟩)⟩
       ·have t5a:decide ((mid:Int)<(en:Int))=false:=zF (by omega);have t5b:decide (mid<en)=false:=zF (by omega);have t5c:¬((mid:Int)<(en:Int)):=by omega
        go_wp2;go_end0
        exact ⟨rfl,d2,S8.out,cutd P2.out C2.out (permIn_refl _ _ _) (.inr ⟨rfl,by omega⟩)⟩
     ·have t3a:decide ((a:Int)<(st:Int))=false:=zF (by omega);have t3b:decide (a<st)=false:=zF (by omega);have t3c:¬((a:Int)<(st:Int)):=by omega
      obtain ⟨d2,hd2⟩:∃ d2,d2=d1:=⟨_,rfl⟩
      have S8:Aside (SWK aj 6 w0 blk off d2 wr):=hd2▸S7.out;have D2:Aside (d2.size=d.size):=hd2▸D1.out;have P2:Aside (PermIn a mid d1 d2):=hd2▸permIn_refl _ _ _;have C2:Aside (SortedIn (ltOf cfM) a mid d2∨(d2=d1∧(st≤a∨mid≤st))):= .inr ⟨hd2,by omega⟩;clear S7 hd2;by_cases g5:mid<en
      ·have t5a:decide ((mid:Int)<(en:Int))=true:=zT (by omega);have t5b:decide (mid<en)=true:=zT (by omega);have t5c:((mid:Int)<(en:Int)):=by omega
       by_cases g6:en<b
       ·have t6a:decide ((en:Int)<(b:Int))=true:=zT (by omega);have t6b:decide (en<b)=true:=zT (by omega);have t6c:((en:Int)<(b:Int)):=by omega
        have HCC:=zh (IH.out mid en b d2 wr D2.out S8.out g5 g6 h3 (by omega) (ab X.out.1 (fun i i1 i2=>P2.out.2.1 i (by omega))) (ab X.out.2.1 (fun i i1 i2=>P2.out.2.1 i (by omega))));clear S8;go_wp2_with fail;refine HCC.out.mono ?_;rintro e w9 ⟨rfl,d3,hS3,hP3,hT3⟩;have S9:Aside _:=hS3;have P3:Aside _:=hP3;have T3:Aside _:=hT3;clear hS3 hP3 hT3 HCC;go_wp2;go_end0
        exact ⟨rfl,d3,S9.out,cutd P2.out C2.out P3.out (.inl T3.out)⟩
       ·have t6a:decide ((en:Int)<(b:Int))=false:=zF (by omega);have t6b:decide (en<b)=false:=zF (by omega);have t6c:¬((en:Int)<(b:Int)):=by omega
        go_wp2;go_end0
        exact ⟨rfl,d2,S8.out,cutd P2.out C2.out (permIn_refl _ _ _) (.inr ⟨rfl,by omega⟩)⟩
      ·have t5a:decide ((mid:Int)<(en:Int))=false:=zF (by omega);have t5b:decide (mid<en)=false:=zF (by omega);have t5c:¬((mid:Int)<(en:Int)):=by omega
       go_wp2;go_end0
       exact ⟨rfl,d2,S8.out,cutd P2.out C2.out (permIn_refl _ _ _) (.inr ⟨rfl,by omega⟩)⟩
   ·have t1a:decide ((st:Int)<(m:Int))=false:=zF (by omega);have t1b:decide (st<m)=false:=zF (by omega);have t1c:¬((st:Int)<(m:Int)):=by omega
    have hrn:d1=d:=by rw [←hd1];exact qbO (by omega) (by omega) (by omega)
    have S7:Aside (SWK aj 6 w0 blk off d1 wr):=hrn▸S.out;have P1:Aside (PermIn st en d d1):=hrn▸permIn_refl _ _ _;clear hrn S;have cutd:=fun {d2 d3:Array M6}=>CUT.out (d2:=d2) (d3:=d3) P1.out;clear hd1;by_cases g3:a<st
    ·have t3a:decide ((a:Int)<(st:Int))=true:=zT (by omega);have t3b:decide (a<st)=true:=zT (by omega);have t3c:((a:Int)<(st:Int)):=by omega
     by_cases g4:st<mid
     ·have t4a:decide ((st:Int)<(mid:Int))=true:=zT (by omega);have t4b:decide (st<mid)=true:=zT (by omega);have t4c:((st:Int)<(mid:Int)):=by omega
      have HCC:=zh (IH.out a st mid d1 wr D1.out S7.out g3 g4 (by omega) (by omega) X1.out.1 X1.out.2);clear S7;go_wp2_with fail;refine HCC.out.mono ?_;rintro e w8 ⟨rfl,d2,hS2,hP2,hT2⟩;have S8:Aside _:=hS2;have D2:Aside (d2.size=d.size):=hP2.1.trans D1.out;have P2:Aside (PermIn a mid d1 d2):=hP2;have C2:Aside (SortedIn (ltOf cfM) a mid d2∨(d2=d1∧(st≤a∨mid≤st))):= .inl hT2;clear hS2 hP2 hT2 HCC;by_cases g5:mid<en
      ·have t5a:decide ((mid:Int)<(en:Int))=true:=zT (by omega);have t5b:decide (mid<en)=true:=zT (by omega);have t5c:((mid:Int)<(en:Int)):=by omega
       by_cases g6:en<b
       ·have t6a:decide ((en:Int)<(b:Int))=true:=zT (by omega);have t6b:decide (en<b)=true:=zT (by omega);have t6c:((en:Int)<(b:Int)):=by omega
        have HCC:=zh (IH.out mid en b d2 w8 D2.out S8.out g5 g6 h3 (by omega) (ab X.out.1 (fun i i1 i2=>P2.out.2.1 i (by omega))) (ab X.out.2.1 (fun i i1 i2=>P2.out.2.1 i (by omega))));clear S8;go_wp2_with fail;refine HCC.out.mono ?_;rintro e w9 ⟨rfl,d3,hS3,hP3,hT3⟩;have S9:Aside _:=hS3;have P3:Aside _:=hP3;have T3:Aside _:=hT3;clear hS3 hP3 hT3 HCC;go_wp2;go_end0
        exact ⟨rfl,d3,S9.out,cutd P2.out C2.out P3.out (.inl T3.out)⟩
       ·have t6a:decide ((en:Int)<(b:Int))=false:=zF (by omega);have t6b:decide (en<b)=false:=zF (by omega);have t6c:¬((en:Int)<(b:Int)):=by omega
        go_wp2;go_end0
        exact ⟨rfl,d2,S8.out,cutd P2.out C2.out (permIn_refl _ _ _) (.inr ⟨rfl,by omega⟩)⟩
      ·have t5a:decide ((mid:Int)<(en:Int))=false:=zF (by omega);have t5b:decide (mid<en)=false:=zF (by omega);have t5c:¬((mid:Int)<(en:Int)):=by omega
       go_wp2;go_end0
       exact ⟨rfl,d2,S8.out,cutd P2.out C2.out (permIn_refl _ _ _) (.inr ⟨rfl,by omega⟩)⟩
     ·have t4a:decide ((st:Int)<(mid:Int))=false:=zF (by omega);have t4b:decide (st<mid)=false:=zF (by omega);have t4c:¬((st:Int)<(mid:Int)):=by omega
      obtain ⟨d2,hd2⟩:∃ d2,d2=d1:=⟨_,rfl⟩
      have S8:Aside (SWK aj 6 w0 blk off d2 wr):=hd2▸S7.out;have D2:Aside (d2.size=d.size):=hd2▸D1.out;have P2:Aside (PermIn a mid d1 d2):=hd2▸permIn_refl _ _ _;have C2:Aside (SortedIn (ltOf cfM) a mid d2∨(d2=d1∧(st≤a∨mid≤st))):= .inr ⟨hd2,by omega⟩;clear S7 hd2;by_cases g5:mid<en
      ·have t5a:decide ((mid:Int)<(en:Int))=true:=zT (by omega);have t5b:decide (mid<en)=true:=zT (by omega);have t5c:((mid:Int)<(en:Int)):=by omega
       by_cases g6:en<b
       ·have t6a:decide ((en:Int)<(b:Int))=true:=zT (by omega);have t6b:decide (en<b)=true:=zT (by omega);have t6c:((en:Int)<(b:Int)):=by omega
        have HCC:=zh (IH.out mid en b d2 wr D2.out S8.out g5 g6 h3 (by omega) (ab X.out.1 (fun i i1 i2=>P2.out.2.1 i (by omega))) (ab X.out.2.1 (fun i i1 i2=>P2.out.2.1 i (by omega))));clear S8;go_wp2_with fail;refine HCC.out.mono ?_;rintro e w9 ⟨rfl,d3,hS3,hP3,hT3⟩;have S9:Aside _:=hS3;have P3:Aside _:=hP3;have T3:Aside _:=hT3;clear hS3 hP3 hT3 HCC;go_wp2;go_end0
        exact ⟨rfl,d3,S9.out,cutd P2.out C2.out P3.out (.inl T3.out)⟩
       ·have t6a:decide ((en:Int)<(b:Int))=false:=zF (by omega);have t6b:decide (en<b)=false:=zF (by omega);have t6c:¬((en:Int)<(b:Int)):=by omega
        go_wp2;go_end0
        exact ⟨rfl,d2,S8.out,cutd P2.out C2.out (permIn_refl _ _ _) (.inr ⟨rfl,by omega⟩)⟩
      ·have t5a:decide ((mid:Int)<(en:Int))=false:=zF (by omega);have t5b:decide (mid<en)=false:=zF (by omega);have t5c:¬((mid:Int)<(en:Int)):=by omega
       go_wp2;go_end0
       exact ⟨rfl,d2,S8.out,cutd P2.out C2.out (permIn_refl _ _ _) (.inr ⟨rfl,by omega⟩)⟩
    ·have t3a:decide ((a:Int)<(st:Int))=false:=zF (by omega);have t3b:decide (a<st)=false:=zF (by omega);have t3c:¬((a:Int)<(st:Int)):=by omega
     obtain ⟨d2,hd2⟩:∃ d2,d2=d1:=⟨_,rfl⟩
     have S8:Aside (SWK aj 6 w0 blk off d2 wr):=hd2▸S7.out;have D2:Aside (d2.size=d.size):=hd2▸D1.out;have P2:Aside (PermIn a mid d1 d2):=hd2▸permIn_refl _ _ _;have C2:Aside (SortedIn (ltOf cfM) a mid d2∨(d2=d1∧(st≤a∨mid≤st))):= .inr ⟨hd2,by omega⟩;clear S7 hd2;by_cases g5:mid<en
     ·have t5a:decide ((mid:Int)<(en:Int))=true:=zT (by omega);have t5b:decide (mid<en)=true:=zT (by omega);have t5c:((mid:Int)<(en:Int)):=by omega
      by_cases g6:en<b
      ·have t6a:decide ((en:Int)<(b:Int))=true:=zT (by omega);have t6b:decide (en<b)=true:=zT (by omega);have t6c:((en:Int)<(b:Int)):=by omega
       have HCC:=zh (IH.out mid en b d2 wr D2.out S8.out g5 g6 h3 (by omega) (ab X.out.1 (fun i i1 i2=>P2.out.2.1 i (by omega))) (ab X.out.2.1 (fun i i1 i2=>P2.out.2.1 i (by omega))));clear S8;go_wp2_with fail;refine HCC.out.mono ?_;rintro e w9 ⟨rfl,d3,hS3,hP3,hT3⟩;have S9:Aside _:=hS3;have P3:Aside _:=hP3;have T3:Aside _:=hT3;clear hS3 hP3 hT3 HCC;go_wp2;go_end0
       exact ⟨rfl,d3,S9.out,cutd P2.out C2.out P3.out (.inl T3.out)⟩
      ·have t6a:decide ((en:Int)<(b:Int))=false:=zF (by omega);have t6b:decide (en<b)=false:=zF (by omega);have t6c:¬((en:Int)<(b:Int)):=by omega
       go_wp2;go_end0
       exact ⟨rfl,d2,S8.out,cutd P2.out C2.out (permIn_refl _ _ _) (.inr ⟨rfl,by omega⟩)⟩
     ·have t5a:decide ((mid:Int)<(en:Int))=false:=zF (by omega);have t5b:decide (mid<en)=false:=zF (by omega);have t5c:¬((mid:Int)<(en:Int)):=by omega
      go_wp2;go_end0
      exact ⟨rfl,d2,S8.out,cutd P2.out C2.out (permIn_refl _ _ _) (.inr ⟨rfl,by omega⟩)⟩
/-- ONE ELEMENT ON THE RIGHT -/
theorem qiI (blk off cap a m b:Nat) (d0 d:Array M6) (w0 w:World) (R:RowK aj 6 w0 blk off d0) (hs:d.size=d0.size) (S:SWK aj 6 w0 blk off d w) (_h1:a<m) (_h2:m<b) (h3:b≤d.size) (hsz:d.size<4611686018427387904)
  (s1:SortedIn (ltOf cfM) a m d) (s2:SortedIn (ltOf cfM) m b d) (hm:b=m+1) (hna:a+1<m) :
  Calls Tryz.prog 188 #[.slice (some ⟨blk,off,none⟩) d.size cap,.int .i64 a,.int .i64 m,.int .i64 b,.func (.func 115) #[] #[]] w fun e w'=>e = .returned (.tuple #[])∧∃ d',SWK aj 6 w0 blk off d' w'∧PermIn a b d d'∧SortedIn (ltOf cfM) a b d':=by
 have mixed:=cT;have HS0:Aside (d.size=d0.size):=hs;have S0:Aside (SWK aj 6 w0 blk off d w):=S;have Q1:Aside _:=s1;have Q2:Aside _:=s2;have e58:∀ args w,(callFunc 115 args).run Tryz.prog w = .ok (.enter 115 args) w:=enters_of Tryz.func115 (by kernel_rfl) rfl;clear S hs s1 s2;have t1:(((m:Int)-(a:Int))==1)=false:=by rw [beq_eq_false_iff_ne];omega
 have t1b:¬(m:Int)-(a:Int)=1:=by omega
 have t1c:(((b:Int)-(m:Int))==1)=true:=by rw [beq_iff_eq];omega
 have t1d:(b:Int)-(m:Int)=1:=by omega
 have HM:Aside (b=m+1):=hm;have hmb:m+1≤b:=by omega
 have hmb2:b≤m+1:=by omega
 clear hm;go_enter Tryz.func188,Tryz.ntmps188;go_wp2_with fail;go_loopw [14,15] (fun si sj wr=>∃ i j:Nat,si = .int .i64 i∧sj = .int .i64 j∧a≤i∧i≤j∧j≤m∧Aside (SWK aj 6 w0 blk off d wr)∧Aside ((∀ x,a≤x→x<i→ltOf cfM d[m]! d[x]! = false)∧(∀ x,j≤x→x<m→ltOf cfM d[m]! d[x]! = true))) (fun si sj _=>(intOf sj).toNat-(intOf si).toNat)
 case atStart=>exact ⟨a,m,rfl,rfl,by omega,by omega,by omega,S0,(show _∧_ from ⟨fun x g1 g2=>by omega,fun x g1 g2=>by omega⟩)⟩
 case round=>
  clear S0;obtain ⟨i,j,rfl,rfl,hai,hij,hjm,S,I⟩:=hrel;by_cases hlt:i<j
  ·have t2:decide ((i:Int)<(j:Int))=true:=zT (by omega);have t3:decide (i<j)=true:=zT hlt;obtain ⟨h,hhh⟩:∃ z,z=(i+j) / 2:=⟨_,rfl⟩
   have wh:((i:Int)+(j:Int)) / 2=(h:Int):=by omega
   have loh:i≤h:=by omega
   have uph:h<j:=by omega
   clear hhh;have pih:(0:Int)≤(h:Int):=by omega
   have bih:(h:Int)<(d.size:Int):=by omega
   have eih:((h:Int)).toNat=h:=by omega
   have pim:(0:Int)≤(m:Int):=by omega
   have bim:(m:Int)<(d.size:Int):=by omega
   have eim:((m:Int)).toNat=m:=by omega
   have ha:h<m:=by omega
   cases hG:ltOf cfM d[m]! d[h]! with
   | true=>
    have HG:Aside _:=hG;obtain ⟨x8,hx8⟩:∃ x,x=d[m]!:=⟨_,rfl⟩
    obtain ⟨y8,hy8⟩:∃ x,x=d[h]!:=⟨_,rfl⟩
    have kx8:=bR S.out R HS0.out m (by omega);have ky8:=bR S.out R HS0.out h (by omega);have hc8:=SWK.cmp (P:=Tryz.prog) S.out (bh blk off d0.size w0) HS0.out x8 y8;rw [←hx8] at kx8;rw [←hy8] at ky8;have hv8:cfM x8 y8<0:=by rw [hx8,hy8];exact of_decide_eq_true hG
    have hd8:decide (cfM x8 y8<0)=true:=zT hv8;clear hx8 hy8;generalize cfM x8 y8=r8 at hc8 hv8 hd8;obtain ⟨xx8,xk8,xn8,xs8,xA8,xl8,xc8,xB8,xm8,xd8⟩:=x8;obtain ⟨yx8,yk8,yn8,ys8,yA8,yl8,yc8,yB8,ym8,yd8⟩:=y8;simp only [aj] at hc8;simp only [C6g] at kx8 ky8;generalize aa xx8=X8 at *;generalize aa yx8=Y8 at *;obtain ⟨a08,a18,a28,a38,a48,a58⟩:=kx8;obtain ⟨b08,b18,b28,b38,b48,b58⟩:=ky8;clear hG;go_wp2_with fail;go_quiet_grown (first | (go_at_fn 115;refine Calls.grown_of (hc8 _ _)))
    have S2:Aside (SWK aj 6 w0 blk off d (grow (wr.drewN nq) osq)):=S.out.grown nq osq;clear a08 a18 a28 a38 a48 a58 b08 b18 b28 b38 b48 b58 hc8 S;generalize grow (wr.drewN nq) osq=w2 at S2 ⊢;clear nq osq;go_wp2;go_roundw
    case rel=>
     refine ⟨i,h,rfl,rfl,hai,by omega,by omega,S2,?_⟩;refine (show _∧_ from ⟨I.out.1,fun x g1 g2=>?_⟩);have k:=aY aK Q1.out (show a≤h by omega) g1 g2;cases hq:ltOf cfM d[m]! d[x]! with
     | true=>rfl
     | false=>have:=aK.ntrans _ _ _ hq k;rw [HG.out] at this;cases this
    case measure=>simp [intOf];omega
   | false=>
    have HG:Aside _:=hG;obtain ⟨x8,hx8⟩:∃ x,x=d[m]!:=⟨_,rfl⟩
    obtain ⟨y8,hy8⟩:∃ x,x=d[h]!:=⟨_,rfl⟩
    have kx8:=bR S.out R HS0.out m (by omega);have ky8:=bR S.out R HS0.out h (by omega);have hc8:=SWK.cmp (P:=Tryz.prog) S.out (bh blk off d0.size w0) HS0.out x8 y8;rw [←hx8] at kx8;rw [←hy8] at ky8;have hv8:¬cfM x8 y8<0:=by rw [hx8,hy8];exact of_decide_eq_false hG
    have hd8:decide (cfM x8 y8<0)=false:=zF hv8;clear hx8 hy8;generalize cfM x8 y8=r8 at hc8 hv8 hd8;obtain ⟨xx8,xk8,xn8,xs8,xA8,xl8,xc8,xB8,xm8,xd8⟩:=x8;obtain ⟨yx8,yk8,yn8,ys8,yA8,yl8,yc8,yB8,ym8,yd8⟩:=y8;simp only [aj] at hc8;simp only [C6g] at kx8 ky8;generalize aa xx8=X8 at *;generalize aa yx8=Y8 at *;obtain ⟨a08,a18,a28,a38,a48,a58⟩:=kx8;obtain ⟨b08,b18,b28,b38,b48,b58⟩:=ky8;clear hG;go_wp2_with fail;go_quiet_grown (first | (go_at_fn 115;refine Calls.grown_of (hc8 _ _)))
    have S2:Aside (SWK aj 6 w0 blk off d (grow (wr.drewN nq) osq)):=S.out.grown nq osq;clear a08 a18 a28 a38 a48 a58 b08 b18 b28 b38 b48 b58 hc8 S;generalize grow (wr.drewN nq) osq=w2 at S2 ⊢;clear nq osq;go_wp2;go_roundw
    case rel=>
     refine ⟨h+1,j,by go_num,rfl,by omega,by omega,hjm,S2,?_⟩;refine (show _∧_ from ⟨fun x g1 g2=>?_,I.out.2⟩);have k:=aY aK Q1.out g1 (show x≤h by omega) (by omega);exact aK.ntrans _ _ _ HG.out k
    case measure=>simp [intOf];omega
  ·obtain rfl:j=i:=by omega
   have t2:decide ((j:Int)<(j:Int))=false:=zF (by omega);have t3:decide (j<j)=false:=zF (by omega);have S1:Aside _:=S;clear S;go_wp2_with fail;go_loopw [17] (fun sk wr2=>∃ (k:Nat) (dk:Array M6),sk = .int .i64 k∧j≤k∧k≤m∧dk.size=d.size∧Aside (dk=bI d k m (m+1))∧Aside (PermIn a b d dk)∧Aside (SWK aj 6 w0 blk off dk wr2)) (fun sk _=>(intOf sk).toNat)
   case atStart=>exact ⟨m,d,rfl,by omega,by omega,rfl,qmx.symm,permIn_refl d a b,S1⟩
   case round=>
    clear S1;obtain ⟨k,dk,rfl,hjk,hkm,hdk,E,Pm,S⟩:=hrel;by_cases hlt2:j<k
    ·obtain ⟨c,hc⟩:∃ c,k=c+1:=⟨k-1,by omega⟩
     have wc:IntKind.i64.wrap ((k:Int)-1)=(c:Int):=by rw [IntKind.wrap_i64];omega
     have wc2:(k:Int)-1=(c:Int):=by omega
     have t4:decide ((j:Int)<(k:Int))=true:=zT (by omega);have t5:decide (j<k)=true:=zT hlt2;have t4b:(j:Int)<(k:Int):=by omega
     have hckl:c<k:=by omega
     have hcj:j≤c:=by omega
     have EC:Aside (k=c+1):=hc;clear hc;have pic:(0:Int)≤(c:Int):=by omega
     have bic:(c:Int)<(d.size:Int):=by omega
     have eic:((c:Int)).toNat=c:=by omega
     have pik:(0:Int)≤(k:Int):=by omega
     have bik:(k:Int)<(d.size:Int):=by omega
     have eik:((k:Int)).toNat=k:=by omega
     obtain ⟨x9,hx9⟩:∃ x,x=dk[k]!:=⟨_,rfl⟩
     obtain ⟨y9,hy9⟩:∃ x,x=dk[c]!:=⟨_,rfl⟩
     have SS9:=qsQ S.out R k c (by omega) (by omega);have kx9:=qaQ S.out R (by have:=HS0.out;omega) k (by omega);have ky9:=qaQ S.out R (by have:=HS0.out;omega) c (by omega);rw [←hx9] at kx9 SS9;rw [←hy9] at ky9 SS9;clear hx9 hy9;obtain ⟨xx9,xk9,xn9,xs9,xA9,xl9,xc9,xB9,xm9,xd9⟩:=x9;obtain ⟨yx9,yk9,yn9,ys9,yA9,yl9,yc9,yB9,ym9,yd9⟩:=y9;obtain ⟨w2,hw9⟩:∃ w2,w2=(qbB (qbB wr blk (off+k*6) ⟨yx9,yk9,yn9,ys9,yA9,yl9,yc9,yB9,ym9,yd9⟩) blk (off+c*6) ⟨xx9,xk9,xn9,xs9,xA9,xl9,xc9,xB9,xm9,xd9⟩).drew:=⟨_,rfl⟩
     rw [←hw9] at SS9;simp only [C6,qbB] at kx9 ky9 hw9;generalize aa xx9=X9 at *;generalize aa yx9=Y9 at *;obtain ⟨⟨a09,a19,a29,a39,a49,a59⟩,⟨f09,f19,f29,f39,f49,f59⟩⟩:=kx9;obtain ⟨⟨b09,b19,b29,b39,b49,b59⟩,⟨g09,g19,g29,g39,g49,g59⟩⟩:=ky9;have S2:Aside _:=SS9;have HW9:=zh hw9;clear SS9 S hw9;have hij9:k≠c:=by omega
     have HDK:Aside (dk.size=d.size):=hdk;clear hdk;go_wp2_with fail;go_big_region
     rw [←HW9.out];clear a09 a19 a29 a39 a49 a59 b09 b19 b29 b39 b49 b59 f09 f19 f29 f39 f49 f59 g09 g19 g29 g39 g49 g59 HW9;go_wp2;go_roundw
     case rel=>
      have hdk:=HDK.out;refine ⟨c,swp dk k c,by go_num,by omega,by omega,by rw [size_swp];exact hdk,(show _=_ by rw [E.out,EC.out];exact qlO (by have:=EC.out;omega) (by omega)),(show PermIn _ _ _ _ from permIn_trans _ _ _ _ _ Pm.out (swp_permIn dk a b k c (by omega) (by omega) (by omega) (by omega) (by omega))),S2⟩
     case measure=>simp [intOf];omega
    ·have t4:decide ((j:Int)<(k:Int))=false:=zF (by omega);have t5:decide (j<k)=false:=zF hlt2;have t4b:¬(j:Int)<(k:Int):=by omega
     have hkj2:k=j:=by omega
     have HKJ:Aside (k=j):=hkj2;clear hkj2;go_wp2
     (try simp only [Exit.inBlock,Exit.then]);refine bodyPost_ret (results_none rfl _ _ _) rfl ?_
     refine ⟨rfl,dk,S.out,Pm.out,?_⟩;rw [E.out,HKJ.out,HM.out];exact qg5 aK (by omega) (by omega) (by omega) Q1.out I.out.1 I.out.2
def qsL:Ren where
 f:=fun _=>187
 t:=fun k=>if k=3 then 3 else if k=4 then 4 else if k=22 then 23 else if k=24 then 44 else if k=25 then 141 else 0
 g:=fun k=>k
theorem qp7:SlLaysF0.n20 Tryz.prog qsL where
 mixed:=cT
 f20:=⟨Tryz.f187.name,by kernel_rfl,Tryz.func187.trans (congrArg some (by kernel_rfl))⟩
 t0:=by kernel_rfl
 a0:=fun _=>by kernel_rfl
 z0:=fun _=>by kernel_rfl
 v0:=fun _=>by kernel_rfl
 t3:=by kernel_rfl
 a3:=fun _=>by kernel_rfl
 z3:=fun _=>by kernel_rfl
 v3:=fun _=>by kernel_rfl
 t4:=by kernel_rfl
 a4:=fun _=>by kernel_rfl
 z4:=fun _=>by kernel_rfl
 v4:=fun _=>by kernel_rfl
 t22:=by kernel_rfl
 a22:=fun _=>by kernel_rfl
 z22:=fun _=>by kernel_rfl
 v22:=fun _=>by kernel_rfl
 t25:=by kernel_rfl
 a25:=fun _=>by kernel_rfl
 z25:=fun _=>by kernel_rfl
 v25:=fun _=>by kernel_rfl
theorem qsT (w:World):(isAgg 44).run Tryz.prog w = .ok true w:=by kernel_rfl
theorem qpu (w:World):(Go.sizeOf 44).run Tryz.prog w = .ok 6 w:=by kernel_rfl
theorem qpQ (blk off cap a b:Nat) (d0 d:Array M6) (w0 w:World) (R:RowK aj 6 w0 blk off d0) (hs:d.size=d0.size) (S:SWK aj 6 w0 blk off d w) (hab:a≤b) (hb:b≤d0.size) (hsz:d0.size<4611686018427387904) :
  Calls Tryz.prog 187 #[.slice (some ⟨blk,off,none⟩) d0.size cap,.int .i64 a,.int .i64 b,.func (.func 115) #[] #[]] w fun e w'=>
   e = .returned (.tuple #[])∧∃ d',SWK aj 6 w0 blk off d' w'∧PermIn a b d d'∧SortedIn (ltOf cfM) a b d':=by
 have h:=AnyQ.insertionSortCmpFunc qp7 6 qsT qpu aj qbS qis cfM 115 #[] blk off cap a b d w (enters_of Tryz.func115 (by kernel_rfl) rfl) (bh blk off d.size w) (S.holds R.hblk R.hH hs) (S.lt R.hblk) hab (by omega) (by omega)
 change Calls Tryz.prog 187 _ _ _ at h
 rw [hs] at h;refine h.mono ?_;rintro e w' ⟨rfl,n,os,rfl⟩;have hh:=insertionSort_holds aK d a b hab (by omega);exact ⟨rfl,_,S.on R.hblk n _ os hh.1.1,hh.1,hh.2⟩
theorem qgO (blk off cap:Nat) (d0:Array M6) (w0:World) (R:RowK aj 6 w0 blk off d0) (hsz:d0.size<4611686018427387904):∀ (N a m b:Nat) (d:Array M6) (w:World),b-a<N→d.size=d0.size→SWK aj 6 w0 blk off d w→a<m→m<b→b≤d0.size→
  SortedIn (ltOf cfM) a m d→SortedIn (ltOf cfM) m b d→Calls Tryz.prog 188 #[.slice (some ⟨blk,off,none⟩) d0.size cap,.int .i64 a,.int .i64 m,.int .i64 b,.func (.func 115) #[] #[]] w fun e w'=>e = .returned (.tuple #[])∧∃ d',SWK aj 6 w0 blk off d' w'∧PermIn a b d d'∧SortedIn (ltOf cfM) a b d':=by
 intro N;induction N with
 | zero=>intro a m b d w h;omega
 | succ N ih=>
  intro a m b d w hN hs S h1 h2 h3 s1 s2;have hsz':d.size<4611686018427387904:=by omega
  rw [←hs];by_cases c1:m=a+1
  ·exact qi3 blk off cap a m b d0 d w0 w R hs S h1 h2 (by omega) hsz' s1 s2 c1
  by_cases c2:b=m+1
  ·exact qiI blk off cap a m b d0 d w0 w R hs S h1 h2 (by omega) hsz' s1 s2 c2 (by omega)
  have IH:∀ (a' m' b':Nat) (d':Array M6) (w':World),d'.size=d.size→SWK aj 6 w0 blk off d' w'→a'<m'→m'<b'→b'≤d.size→b'-a'<b-a→SortedIn (ltOf cfM) a' m' d'→SortedIn (ltOf cfM) m' b' d'→
   Calls Tryz.prog 188 #[.slice (some ⟨blk,off,none⟩) d.size cap,.int .i64 a',.int .i64 m',.int .i64 b',.func (.func 115) #[] #[]] w' fun e w''=>e = .returned (.tuple #[])∧∃ d'',SWK aj 6 w0 blk off d'' w''∧PermIn a' b' d' d''∧SortedIn (ltOf cfM) a' b' d'':=by
   intro a' m' b' d' w' hd' S' k1 k2 k3 k4 k5 k6;rw [hs];exact ih a' m' b' d' w' (by omega) (by omega) S' k1 k2 (by omega) k5 k6
  by_cases c3:(a+b) / 2<m
  ·exact qhv blk off cap a m b d0 d w0 w R hs S h1 h2 (by omega) hsz' s1 s2 (by omega) (by omega) _ rfl c3 IH
  ·exact qia blk off cap a m b d0 d w0 w R hs S h1 h2 (by omega) hsz' s1 s2 (by omega) (by omega) _ rfl (by omega) IH
section
variable {lt:M6→M6→Bool}
def qcg (lt:M6→M6→Bool) (B s n:Nat) (d:Array M6):Prop:=∀ k,SortedIn lt (s+k*B) (min (s+k*B+B) n) d
def qdg (lt:M6→M6→Bool) (C a:Nat) (d:Array M6):Prop:=∀ k,k*C+C≤a→SortedIn lt (k*C) (k*C+C) d
theorem qfg (C:Nat) (hC:0<C) (d:Array M6):qdg lt C 0 d:=fun k h=>by omega
theorem qgZ {q k C:Nat} (h:q<k):q*C+C≤k*C:=by
 have:=Nat.mul_le_mul_right C (show q+1≤k by omega);rwa [Nat.succ_mul] at this
theorem qd1 {C a:Nat} {d d':Array M6} (h:qdg lt C a d) (he:∀ i,i<a→d'[i]! = d[i]!):qdg lt C a d':=fun k hk=>
 ab (h k hk) fun i _ i2=>he i (by omega)
theorem qfo {C a:Nat} {d d':Array M6} (hq:∃ q,a=q*C) (h:qdg lt C a d) (p:PermIn a (a+C) d d') (s:SortedIn lt a (a+C) d'):qdg lt C (a+C) d':=fun k hk=>by
 obtain ⟨q,rfl⟩:=hq;rcases Nat.lt_trichotomy k q with c | c | c
 ·have:=qgZ (C:=C) c;exact ab (h k (by omega)) fun i _ i2=>p.2.1 i (by omega)
 ·subst c;exact s
 ·have:=qgZ (C:=C) c;intro x y h1 h2 h3;omega
theorem qcH {C a n:Nat} {d:Array M6} (hq:∃ q,a=q*C) (h:qdg lt C a d) (hn:n<a+C) (ha:a≤n) (hl:SortedIn lt a n d):qcg lt C 0 n d:=fun k=>by
 obtain ⟨q,rfl⟩:=hq;rw [Nat.zero_add];rcases Nat.lt_trichotomy k q with c | c | c
 ·have:=qgZ (C:=C) c;rw [show min (k*C+C) n=k*C+C by omega];exact h k (by omega)
 ·subst c;rw [show min (k*C+C) n=n by omega];exact hl
 ·have:=qgZ (C:=C) c;intro x y h1 h2 h3;omega
theorem qcj {B a n:Nat} {d:Array M6} (h:qcg lt B a n d):SortedIn lt a (min (a+B) n) d:=by
 have:=h 0;rwa [Nat.zero_mul,Nat.add_zero] at this
theorem qim {B a n:Nat} {d:Array M6} (h:qcg lt B a n d):SortedIn lt (a+B) (min (a+B+B) n) d:=by
 have:=h 1;rwa [Nat.one_mul] at this
theorem qjt {B a n C:Nat} {d d':Array M6} (hC:C=2*B) (h:qcg lt B a n d) (he:∀ i,a+C≤i→d'[i]! = d[i]!):qcg lt B (a+C) n d':=fun k=>by
 have e:a+C+k*B=a+(k+2)*B:=by rw [Nat.add_mul,hC];omega
 rw [e];refine ab (h (k+2)) fun i i1 _=>he i ?_;rw [←e] at i1;omega
theorem qo4 {B n:Nat} {d:Array M6} (h:qcg lt B 0 n d) (hn:n≤B):SortedIn lt 0 n d:=by
 have:=qcj h;rwa [Nat.zero_add,show min B n=n by omega] at this
end
theorem qo7 (A:Option Addr) (c:Nat) (fv:Value) (w:World):Calls Tryz.prog 187 #[.slice A 0 c,.int .i64 0,.int .i64 0,fv] w fun e w'=>e = .returned (.tuple #[])∧w'=w:=by
 go_enter Tryz.func187,Tryz.ntmps187;go_wp2_with fail;refine wp_loop_rounds 1 ?_;rw [rounds_succ];go_wp2;go_end0
 exact ⟨rfl,rfl⟩
theorem qhs (A:Option Addr) (c:Nat) (fv:Value) (w:World):Calls Tryz.prog 165 #[.slice A 0 c,.int .i64 0,fv] w fun e w'=>e = .returned (.tuple #[])∧w'=w:=by
 go_enter Tryz.func165,Tryz.ntmps165;go_wp2_with fail;refine wp_loop_rounds 1 ?_;rw [rounds_succ];go_wp2_with fail;refine (qo7 _ _ _ _).mono ?_;rintro e w' ⟨rfl,rfl⟩;go_wp2_with fail;refine wp_loop_rounds 1 ?_;rw [rounds_succ];go_wp2;go_end0
 exact ⟨rfl,rfl⟩
theorem qjg (blk off cap n:Nat) (d0:Array M6) (w0:World) (R:RowK aj 6 w0 blk off d0) (hn:d0.size=n) (hsz:n<1152921504606846976) :
  Calls Tryz.prog 165 #[.slice (some ⟨blk,off,none⟩) n cap,.int .i64 n,.func (.func 115) #[] #[]] w0 fun e w'=>e = .returned (.tuple #[])∧∃ d',SWK aj 6 w0 blk off d' w'∧PermIn 0 n d0 d'∧SortedIn (ltOf cfM) 0 n d':=by
 have S0:Aside (SWK aj 6 w0 blk off d0 w0):=SWK.start R.hH;have INS:Aside _:=fun (a b:Nat) (d:Array M6) (w:World) (hs:d.size=n) (S:SWK aj 6 w0 blk off d w) (hab:a≤b) (hb:b≤n)=>by
  have:=qpQ blk off cap a b d0 d w0 w R (by omega) S hab (by omega) (by omega);rwa [hn] at this
 have MRG:Aside _:=fun (a m b:Nat) (d:Array M6) (w:World) (hs:d.size=n) (S:SWK aj 6 w0 blk off d w) (h1:a<m) (h2:m<b) (h3:b≤n) (s1:SortedIn (ltOf cfM) a m d) (s2:SortedIn (ltOf cfM) m b d)=>by
  have:=qgO blk off cap d0 w0 R (by omega) (b-a+1) a m b d w (by omega) (by omega) S h1 h2 (by omega) s1 s2;rwa [hn] at this
 have HN:Aside (d0.size=n):=hn;clear R hn;go_enter Tryz.func165,Tryz.ntmps165;go_wp2_with fail;go_loopw [7,8] (fun sa sb wr=>∃ (a b:Nat) (dk:Array M6),sa = .int .i64 a∧sb = .int .i64 b∧a+20≤b∧b≤a+20∧a≤n∧Aside (dk.size=n)∧Aside (SWK aj 6 w0 blk off dk wr)∧Aside (PermIn 0 n d0 dk)∧Aside (∃ q,a=q*20)∧Aside (qdg (ltOf cfM) 20 a dk)) (fun sa _ _=>n-(intOf sa).toNat)
 case atStart=>exact ⟨0,20,d0,rfl,rfl,by omega,by omega,by omega,HN,S0,(show PermIn _ _ _ _ from permIn_refl _ _ _),(show ∃ q,_ from ⟨0,by omega⟩),qfg 20 (by omega) d0⟩
 case round=>
  clear S0;obtain ⟨a,b,dk,rfl,rfl,b1,b2,an,DS,S,Pm,Q,D⟩:=hrel;by_cases hb:b≤n
  ·have t1:decide ((b:Int)≤(n:Int))=true:=zT (by omega);have t2:decide (b≤n)=true:=zT hb;have HCC:=zh (INS.out a b dk wr DS.out S.out (by omega) hb);clear S;go_wp2_with fail;refine HCC.out.mono ?_;rintro e w1 ⟨rfl,d1,hS,hP,hT⟩;have S1:Aside _:=hS;have P1:Aside _:=hP;have T1:Aside _:=hT;clear hS hP hT HCC;go_wp2_with fail;go_roundw
   case rel=>
    have hba:b=a+20:=by omega
    refine ⟨b,b+20,d1,rfl,by go_num,by omega,by omega,hb,(show _=_ from P1.out.1.trans DS.out),S1,(show PermIn _ _ _ _ from permIn_trans _ _ _ _ _ Pm.out (permIn_mono _ _ _ _ _ _ (by omega) hb (by have:=DS.out;omega) P1.out)),?_,?_⟩
    ·obtain ⟨q,hq⟩:=Q.out;exact (show ∃ q,_ from ⟨q+1,by omega⟩)
    ·have k1:=P1.out;have k2:=T1.out;rw [hba] at k1 k2 ⊢;exact qfo Q.out D.out k1 k2
   case measure=>simp [intOf];omega
  ·have t1:decide ((b:Int)≤(n:Int))=false:=zF (by omega);have t2:decide (b≤n)=false:=zF hb;have HCC:=zh (INS.out a n dk wr DS.out S.out an (by omega));clear S;go_wp2_with fail;refine HCC.out.mono ?_;rintro e w1 ⟨rfl,d1,hS,hP,hT⟩;have S1:Aside _:=hS;have P1:Aside (PermIn 0 n d0 d1):=permIn_trans _ _ _ _ _ Pm.out (permIn_mono _ _ _ _ _ _ (by omega) (by omega) (by have:=DS.out;omega) hP);have DS1:Aside (d1.size=n):=hP.1.trans DS.out;have F1:Aside (qcg (ltOf cfM) 20 0 n d1):=qcH Q.out (qd1 D.out fun i hi=>hP.2.1 i (by omega)) (by omega) an hT;clear hS hP hT HCC;clear Pm DS Q D hb t1 t2 b1 b2 an;go_wp2_with fail;go_loopw [6] (fun sB wr=>∃ (B:Nat) (dk:Array M6),sB = .int .i64 B∧20≤B∧(B≤20∨B≤2*n)∧Aside (dk.size=n)∧Aside (SWK aj 6 w0 blk off dk wr)∧Aside (PermIn 0 n d0 dk)∧Aside (qcg (ltOf cfM) B 0 n dk)) (fun sB _=>n-(intOf sB).toNat)
   case atStart=>exact ⟨20,d1,rfl,by omega,by omega,DS1,S1,P1,F1⟩
   case round=>
    clear S1 P1 DS1 F1;obtain ⟨B,dB,rfl,hB,hB2,DS,S,Pm,F⟩:=hrel;by_cases hBn:B<n
    ·have t1:decide ((B:Int)<(n:Int))=true:=zT (by omega);have t2:decide (B<n)=true:=zT hBn;obtain ⟨C,hC⟩:∃ C,C=2*B:=⟨_,rfl⟩
     have wC:IntKind.i64.wrap (2*(B:Int))=(C:Int):=by rw [IntKind.wrap_i64];omega
     have wC2:2*(B:Int)=(C:Int):=by omega
     have wC3:IntKind.i64.wrap ((B:Int)*2)=(C:Int):=by rw [IntKind.wrap_i64];omega
     have wC4:(B:Int)*2=(C:Int):=by omega
     have c1:C≤2*B:=by omega
     have c2:2*B≤C:=by omega
     have HC:Aside (C=2*B):=hC;clear hC;have S2:Aside _:=S;have P2:Aside _:=Pm;have DS2:Aside _:=DS;have F2:Aside _:=F;clear S Pm DS F;go_wp2_with fail;go_loopw [7,8] (fun sa sb wr=>∃ (a b:Nat) (dk:Array M6),sa = .int .i64 a∧sb = .int .i64 b∧a+C≤b∧b≤a+C∧a≤n∧Aside (dk.size=n)∧Aside (SWK aj 6 w0 blk off dk wr)∧Aside (PermIn 0 n d0 dk)∧Aside (∃ q,a=q*C)∧Aside (qdg (ltOf cfM) C a dk)∧Aside (qcg (ltOf cfM) B a n dk)) (fun sa _ _=>n-(intOf sa).toNat)
     case atStart=>exact ⟨0,C,dB,rfl,rfl,by omega,by omega,by omega,DS2,S2,P2,(show ∃ q,_ from ⟨0,by omega⟩),qfg C (by omega) dB,F2⟩
     case round=>
      clear S2 P2 DS2 F2;obtain ⟨a,b,dk,rfl,rfl,b1,b2,an,DS,S,Pm,Q,D,F⟩:=hrel;obtain ⟨m,hm⟩:∃ m,m=a+B:=⟨_,rfl⟩
      have wm:IntKind.i64.wrap ((a:Int)+(B:Int))=(m:Int):=by rw [IntKind.wrap_i64];omega
      have wm2:(a:Int)+(B:Int)=(m:Int):=by omega
      have m1:m≤a+B:=by omega
      have m2:a+B≤m:=by omega
      have HM:Aside (a+B=m):=hm.symm;clear hm;by_cases hb:b≤n
      ·have t3:decide ((b:Int)≤(n:Int))=true:=zT (by omega);have t4:decide (b≤n)=true:=zT hb;have f1:=qcj F.out;have f2:=qim F.out;rw [HM.out] at f1 f2;rw [show min m n=m by omega] at f1;rw [show min (m+B) n=b by omega] at f2;have HCC:=zh (MRG.out a m b dk wr DS.out S.out (by omega) (by omega) hb f1 f2);clear S f1 f2;go_wp2_with fail;refine HCC.out.mono ?_;rintro e w3 ⟨rfl,d3,hS,hP,hT⟩;have S3:Aside _:=hS;have P3:Aside _:=hP;have T3:Aside _:=hT;clear hS hP hT HCC;go_wp2_with fail;go_roundw
       case rel=>
        have hba:b=a+C:=by omega
        refine ⟨b,b+C,d3,rfl,by go_num,by omega,by omega,hb,(show _=_ from P3.out.1.trans DS.out),S3,(show PermIn _ _ _ _ from permIn_trans _ _ _ _ _ Pm.out (permIn_mono _ _ _ _ _ _ (by omega) hb (by have:=DS.out;omega) P3.out)),?_,?_,?_⟩
        ·obtain ⟨q,hq⟩:=Q.out;exact (show ∃ q,_ from ⟨q+1,by rw [Nat.succ_mul];omega⟩)
        ·have k1:=P3.out;have k2:=T3.out;rw [hba] at k1 k2 ⊢;exact qfo Q.out D.out k1 k2
        ·rw [hba];exact qjt HC.out F.out (fun i hi=>P3.out.2.1 i (by omega))
       case measure=>simp [intOf];omega
      ·have t3:decide ((b:Int)≤(n:Int))=false:=zF (by omega);have t4:decide (b≤n)=false:=zF hb;by_cases hmn:m<n
       ·have t5:decide ((m:Int)<(n:Int))=true:=zT (by omega);have t6:decide (m<n)=true:=zT hmn;have f1:=qcj F.out;have f2:=qim F.out;rw [HM.out] at f1 f2;rw [show min m n=m by omega] at f1;rw [show min (m+B) n=n by omega] at f2;have HCC:=zh (MRG.out a m n dk wr DS.out S.out (by omega) hmn (by omega) f1 f2);clear S f1 f2;go_wp2_with fail;refine HCC.out.mono ?_;rintro e w3 ⟨rfl,d3,hS,hP,hT⟩;have S3:Aside _:=hS;have P3:Aside _:=hP;have T3:Aside _:=hT;clear hS hP hT HCC;go_wp2_with fail;go_roundw
        case rel=>
         exact ⟨C,d3,rfl,by omega,by omega,(show _=_ from P3.out.1.trans DS.out),S3,(show PermIn _ _ _ _ from permIn_trans _ _ _ _ _ Pm.out (permIn_mono _ _ _ _ _ _ (by omega) (by omega) (by have:=DS.out;omega) P3.out)),
          qcH Q.out (qd1 D.out fun i hi=>P3.out.2.1 i (by omega)) (by omega) an T3.out⟩
        case measure=>simp [intOf];omega
       ·have t5:decide ((m:Int)<(n:Int))=false:=zF (by omega);have t6:decide (m<n)=false:=zF hmn;have f1:=qcj F.out;rw [HM.out] at f1;rw [show min m n=n by omega] at f1;have T3:Aside _:=f1;clear f1;go_wp2_with fail;go_roundw
        case rel=>
         exact ⟨C,dk,rfl,by omega,by omega,DS,S,Pm,qcH Q.out D.out (by omega) an T3.out⟩
        case measure=>simp [intOf];omega
    ·have t1:decide ((B:Int)<(n:Int))=false:=zF (by omega);have t2:decide (B<n)=false:=zF hBn;go_wp2;go_end0
     exact ⟨rfl,dB,S.out,Pm.out,qo4 F.out (by omega)⟩
theorem qdO (blk off cap n:Nat) (d0:Array M6) (w0:World) (R:RowK aj 6 w0 blk off d0) (hn:d0.size=n) (hsz:n<1152921504606846976) :
  Calls Tryz.prog 114 #[.slice (some ⟨blk,off,none⟩) n cap,.func (.func 115) #[] #[]] w0 fun e w'=>e = .returned (.tuple #[])∧∃ d',SWK aj 6 w0 blk off d' w'∧PermIn 0 n d0 d'∧SortedIn (ltOf cfM) 0 n d':=by
 have HCC:=zh (qjg blk off cap n d0 w0 R hn hsz);clear R hn;go_enter Tryz.func114,Tryz.ntmps114;go_wp2_with fail;refine HCC.out.mono ?_;rintro e w1 ⟨rfl,h⟩;have H:=zh h;clear h HCC;go_wp2_with fail;go_end0
 exact ⟨rfl,H.out⟩
theorem qdp (A:Option Addr) (c:Nat) (fv:Value) (w:World):Calls Tryz.prog 114 #[.slice A 0 c,fv] w fun e w'=>e = .returned (.tuple #[])∧w'=w:=by
 go_enter Tryz.func114,Tryz.ntmps114;go_wp2_with fail;refine (qhs _ _ _ _).mono ?_;rintro e w' ⟨rfl,rfl⟩;go_wp2_with fail;go_end0
 exact ⟨rfl,rfl⟩
