/- Merged: SmJ SmK. -/
import Derived.Test.YtnecfkhbncepnaaGreatDoorTt24
import Derived.Shelf.Spec.SlicesGrow
import Derived.Laws.AppendOwnNone
set_option maxRecDepth 100000
set_option maxHeartbeats 1000000
namespace Go.Proofs.YtnecfkhbncepnaaGreatDoor
namespace Sm
open Go.Proofs Go.RowKit Go.Shelf Go.Lib Utf Nu Wo
theorem bl {P:Program} {w:World} {ops:Array Oper} {rest:List Oper} {o:Oper} {a:Act} {Q:Exit→Act→World→Prop} (hgd:o.guard=none) (s x:Operand) (t:TypeId)
  (ho:o.op = .call { callee:= .builtin .append,args:= #[s,x],argTypes:= #[t,t] }) (base:Nat) (e:TypeId) (i:TypeInfo) (z:Value) (size bytes:Nat) (ht:P.underlying t=some (.slice e)) (hi:P.info? e=some i) (hz:i.zero=some z)
  (hsize:i.size=size) (hby:i.bytes=bytes) (hzs:z.cells.size=size) (hsz:0<size) (v:Value) (n:Nat) (xs:List Value) (hs:a.eval s=v) (hown:w.ownsRow base e size v n xs)
  (A:Option Addr) (m c:Nat) (news:List Value) (hx:a.eval x = .slice A m c) (hl:news.length=m*size) (hA:A=none→m=0) (hnews:∀ ad,A=some ad→∀ j u,news[j]? = some u→w.cell? (ad.add j)=some u) (h1:∀ u∈news,u.oneCell'=true)
  (h63:n+m≤maxLen) (hbytes:(n+m)*bytes≤140737488355328) (hbase:base≤w.heap.size)
  (h:∀ v' w',w'.ownsRow base e size v' (n+m) (xs++news)→w.grownBy w' v.ownBlock→wpList P ops Q rest (a.put o.dst v') w'):wpList P ops Q (o::rest) a w:=by
 cases A with
 | some ad=>exact wpList_append_own w hgd s x t ho base e i z size bytes ht hi hz hsize hby hzs hsz v n xs hs hown ad m c news hx hl (hnews ad rfl) h1 h63 hbytes hbase fun v' w' q1 q2 _=>h v' w' q1 q2
 | none=>
  obtain rfl:=hA rfl;have hn:news=[]:=List.eq_nil_of_length_eq_zero (by omega);subst hn;refine wpList_plain hgd fun K hK=>?_;have hrun:(Builtin.append_ #[t,t] o.type #[v,.slice none 0 c]).run P w = .ok v w:=by
   rcases hown.2 with ⟨rfl,rfl⟩ | ⟨g,cap,cur,rfl,_,_,hnc,_⟩
   ·simp [Builtin.append_,run_underlying ht,sizeOf,typeInfo,hi,Builtin.lenOf,Builtin.firstCells]
   ·simp [Builtin.append_,run_underlying ht,sizeOf,typeInfo,hi,Builtin.lenOf,Builtin.firstCells,hnc,storeCells]
  unfold Oper.wp;simp [execOp,ho,resolve,invoke,builtin,hs,hx,hrun,Result.andThen];exact hK _ _ (h v w (by simpa using hown) (World.grownBy.refl w _))
theorem qgm:(Tryz.prog.info? 76).map (fun i=>(i.zero,i.size,i.bytes))=some (some (.agg #[.string ⟨#[]⟩,.int .i64 0,.string ⟨#[]⟩,.bool false,.string ⟨#[]⟩]),5,64):=by kernel_rfl
def qoO:Ren where
 f:=fun _=>129
 t:=fun k=>if k=0 then 0 else if k=3 then 3 else if k=4 then 4 else if k=9 then 9 else if k=20 then 20 else if k=22 then 48 else 76
 g:=fun k=>k
theorem qpB:Lays8.n4 Tryz.prog qoO where
 mixed:=by kernel_rfl
 f4:=⟨Tryz.f129.name,by kernel_rfl,Tryz.func129.trans (congrArg some (by kernel_rfl))⟩
 t0:=by kernel_rfl
 a0:=fun _=>by kernel_rfl
 z0:=fun _=>by kernel_rfl
 v0:=fun _=>by kernel_rfl
 t3:=by kernel_rfl
 a3:=fun _=>by kernel_rfl
 z3:=fun _=>by kernel_rfl
 v3:=fun _=>by kernel_rfl
 t4:=by kernel_rfl
 a4:=fun _=>by kernel_rfl
 z4:=fun _=>by kernel_rfl
 v4:=fun _=>by kernel_rfl
 t9:=by kernel_rfl
 a9:=fun _=>by kernel_rfl
 z9:=fun _=>by kernel_rfl
 v9:=fun _=>by kernel_rfl
 t20:=by kernel_rfl
 a20:=fun _=>by kernel_rfl
 z20:=fun _=>by kernel_rfl
 v20:=fun _=>by kernel_rfl
 t22:=by kernel_rfl
 a22:=fun _=>by kernel_rfl
 z22:=fun _=>by kernel_rfl
 v22:=fun _=>by kernel_rfl
theorem qpf (n:Nat) (w:World) (h0:0<n) (h1:n≤1000) :
  Calls Tryz.prog 129 #[.slice none 0 0,.int .i64 n] w fun e w'=>∃ v,e = .returned v∧w'.ownsRow w.heap.size 76 5 v 0 []∧Below w.heap.size w w':=by
 obtain ⟨i0,hi,hz0,hz1,hz2⟩:=info_parts qgm;have h:=Any8.slices_Grow_grow qpB i0 _ hi hz0 (by rw [hz1];decide) none 0 0 n [] w (Nat.le_refl _) (by omega) (by rw [hz2];omega) (by omega) (by simp) (fun _=>rfl) (fun a e=>by cases e);refine h.mono ?_;rintro e w' ⟨rfl,rfl⟩;refine ⟨_,rfl,World.ownsRow_made _ _ _ (Nat.le_refl _) ?_ ?_,(Below.refl _ _).drew.alloc (Nat.le_refl _) _⟩
 ·exact grownCap_le_maxLen w _ _ _ (by unfold maxLen;omega)
 ·have hge:=grownCap_ge w n 0 (qoO.t 25);simp only [Array.size_append,List.size_toArray,size_zeroCells,List.length_nil,Nat.zero_add,Nat.sub_zero,Value.cells,List.length_cons];omega
theorem RdP.news {w:World} {B:Nat} {A:Option Addr} {n c:Nat} {ps:List Pr} (h:RdP w B (.slice A n c) ps):n=ps.length∧(A=none→n=0)∧∀ ad,A=some ad→∀ j u,(aR ps)[j]? = some u→w.cell? (ad.add j)=some u:=by
 obtain ⟨A',c',hv,hx⟩:=h;injection hv with h1 h2 h3
 subst h1;subst h2;refine ⟨rfl,fun e=>?_,fun ad e j u hu=>?_⟩
 ·by_cases h0:0<ps.length
  ·obtain ⟨g,e',_⟩:=hx h0;rw [e] at e';cases e'
  ·omega
 ·have h0:0<ps.length:=by
   have:=(List.getElem?_eq_some_iff.1 hu).1;rw [cd] at this;omega
  obtain ⟨g,e',_,hc⟩:=hx h0;rw [e] at e';injection e' with e'
  subst e';have:=hc j u hu;rwa [show (⟨g,0,none⟩:Addr).add j=⟨g,j,none⟩ by unfold Addr.add;split <;> simp_all]
theorem qah (ps:List Pr):∀ u∈aR ps,u.oneCell'=true:=by
 intro u hu;unfold aR at hu;rw [List.mem_flatten] at hu;obtain ⟨r,hr,hu⟩:=hu;rw [List.mem_map] at hr;obtain ⟨p,_,rfl⟩:=hr;exact qtz _ _ _ _ _ u hu
theorem qes (g cap n1 n2 c1 c2:Nat) (A1 A2:Option Addr) (L1 L2:List Pr) (w:World) (r1:RdP w w.heap.size (.slice A1 n1 c1) L1) (r2:RdP w w.heap.size (.slice A2 n2 c2) L2)
  (q1:w.cell? ⟨g,0,none⟩=some (.slice A1 n1 c1)) (q2:w.cell? ⟨g,1,none⟩=some (.slice A2 n2 c2)) (hg:g<w.heap.size) (hn:0<n1+n2) (hs1:n1≤100) (hs2:n2≤100) :
  Calls Tryz.prog 62 #[.slice (some ⟨g,0,none⟩) 2 cap] w (ai 76 (L1++L2) w):=by
 obtain ⟨i0,hi,hz0,hz1,hz2⟩:=info_parts qgm;have R1:=zh r1;have R2:=zh r2;have HN1:=zh r1.news;have HN2:=zh r2.news;have HG:=zh (fun n h0 h1=>qpf n w h0 h1);clear r1 r2;have hn':=hn;have hq1:=q1;have hq2:=q2;have hgl:=hg;have z1:((2:Nat):Int)=2:=rfl;go_enter Tryz.func62,Tryz.ntmps62;go_wp2_with fail;go_loopw [3,11] (fun s i wr=>∃ (k:Nat) (z:Int),i = .int .i64 (k:Int)∧s = .int .i64 z∧(k=0∧z=0∨k=1∧z=n1∨k=2∧z=n1+n2)∧Aside (w=wr)) (fun _ i _=>2-(RowKit.intOf i).toNat)
 case atStart=>exact ⟨0,0,rfl,rfl,.inl ⟨rfl,rfl⟩,(show _=_ from rfl)⟩
 case round=>
  obtain ⟨k,z,rfl,rfl,hkk,hw⟩:=hrel;obtain rfl:w=wr:=hw.out;clear hw;rcases hkk with ⟨rfl,rfl⟩ | ⟨rfl,rfl⟩ | ⟨rfl,rfl⟩
  ·have t3:decide ((n1:Int)<0)=false:=zF (by omega);go_wp2_with fail;go_roundw
   case rel=>exact ⟨1,n1,rfl,by go_num,.inr (.inl ⟨rfl,rfl⟩),(show True from trivial)⟩
   case measure=>simp [RowKit.intOf]
  ·have t3:decide ((n1:Int)+(n2:Int)<0)=false:=zF (by omega);go_wp2_with fail;go_roundw
   case rel=>exact ⟨2,n1+n2,rfl,by go_num,.inr (.inr ⟨rfl,rfl⟩),(show True from trivial)⟩
   case measure=>simp [RowKit.intOf]
  ·obtain ⟨n,hnn⟩:∃ n,n=n1+n2:=⟨_,rfl⟩
   have HC:=zh (HG.out n (by omega) (by omega));rw [show ((n1:Int)+(n2:Int))=(n:Int) by omega];clear hnn q1 q2 hg;have Q1:=zh hq1;have Q2:=zh hq2;have HGL:=zh hgl;clear hq1 hq2 hgl;go_wp2_with fail;refine HC.out.mono ?_;rintro e w1 ⟨v,rfl,hown,hb⟩;have HO:=zh hown;have HB:=zh hb;clear hown hb HC HG;go_wp2_with fail;go_loopw [6,27] (fun s i wr=>∃ (k m:Nat) (xs:List Value),i = .int .i64 (k:Int)∧(k=0∧m=0∧xs=[]∨k=1∧m=n1∧xs=aR L1∨k=2∧m=n1+n2∧xs=aR (L1++L2))∧Aside (wr.ownsRow w.heap.size 76 5 s m xs)∧Aside (Below w.heap.size w wr)) (fun _ i _=>2-(RowKit.intOf i).toNat)
   case atStart=>exact ⟨0,0,[],rfl,.inl ⟨rfl,rfl,rfl⟩,HO.out,HB.out⟩
   case round=>
    obtain ⟨k,m,xs,rfl,hkk,hrow,hbel⟩:=hrel;have HR:=zh hrow.out;have HE:=zh hbel.out;clear hrow hbel;rcases hkk with ⟨rfl,rfl,rfl⟩ | ⟨rfl,rfl,rfl⟩ | ⟨rfl,rfl,rfl⟩
    ·have q:=(HE.out.cell (p:=⟨g,0,none⟩) HGL.out).trans Q1.out;have HN:=zh (RdP.news (R1.out.below HE.out (Nat.le_refl _)));go_wp2_with (at_builtin;refine bl rfl _ _ 48 rfl w.heap.size 76 i0 _ 5 64 Tryz.underlying48 hi hz0 hz1 hz2 (by rfl) (by decide) u6 0 [] rfl HR.out A1 n1 c1 (aR L1) rfl (by rw [cd,HN.out.1]) HN.out.2.1 HN.out.2.2 (qah _) ?q1 ?q2 HE.out.size ?_)
     case q1=>unfold maxLen;omega
     case q2=>omega
     intro v2 w2 hown2 hg2;have HB2:=zh (show Below w.heap.size w w2 from HE.out.grown hg2 HE.out.size (fun k hk=>(HR.out.lt k hk).1));have HO2:=zh hown2;clear hown2 hg2;go_wp2_with fail;go_roundw
     case rel=>exact ⟨1,n1,aR L1,rfl,.inr (.inl ⟨rfl,rfl,rfl⟩),(show World.ownsRow _ _ _ _ _ _ _ from by have:=HO2.out;simpa using this),HB2.out⟩
     case measure=>simp [RowKit.intOf]
    ·have q:=(HE.out.cell (p:=⟨g,1,none⟩) HGL.out).trans Q2.out;have HN:=zh (RdP.news (R2.out.below HE.out (Nat.le_refl _)));go_wp2_with (at_builtin;refine bl rfl _ _ 48 rfl w.heap.size 76 i0 _ 5 64 Tryz.underlying48 hi hz0 hz1 hz2 (by rfl) (by decide) u6 m (aR L1) rfl HR.out A2 n2 c2 (aR L2) rfl (by rw [cd,HN.out.1]) HN.out.2.1 HN.out.2.2 (qah _) ?q1 ?q2 HE.out.size ?_)
     case q1=>unfold maxLen;omega
     case q2=>omega
     intro v2 w2 hown2 hg2;have HB2:=zh (show Below w.heap.size w w2 from HE.out.grown hg2 HE.out.size (fun k hk=>(HR.out.lt k hk).1));have HO2:=zh hown2;clear hown2 hg2;go_wp2_with fail;go_roundw
     case rel=>exact ⟨2,m+n2,aR (L1++L2),rfl,.inr (.inr ⟨rfl,rfl,rfl⟩),(show World.ownsRow _ _ _ _ _ _ _ from by have:=HO2.out;rw [←qaG] at this;exact this),HB2.out⟩
     case measure=>simp [RowKit.intOf]
    ·have HE2:=zh (show n1+n2=(L1++L2).length by rw [List.length_append,HN1.out.1,HN2.out.1]);go_wp2_with fail;go_ret;refine ⟨_,rfl,?_,HE.out⟩;rw [←HE2.out];exact HR.out
theorem RdP.lit (w:World) (ps:List Pr) (cs:Array Value) (E k c:Nat) (h:cs=(aR ps).toArray) (hk:k=ps.length):RdP (w.alloc (.cells cs E)) (w.heap.size+1) (.slice (some ⟨w.heap.size,0,none⟩) k c) ps:=by
 subst h hk;refine ⟨_,c,rfl,fun _=>⟨_,rfl,Nat.lt_succ_self _,fun j u hu=>?_⟩⟩;rw [cell_of_row _ _ _ _ _ _ (heap_alloc_new w _)]
 simpa using hu
theorem ai.down {E:TypeId} {ps:List Pr} {w w1:World} {e:Ending} {w':World} (h:ai E ps w1 e w') (hb:Below w.heap.size w w1):ai E ps w e w':=by
 obtain ⟨v,rfl,h1,h2⟩:=h;exact ⟨v,rfl,qhO h1 hb.size,hb.trans (h2.mono hb.size)⟩
theorem qp2 (w:World) (ps:List Pr) (cs:Array Value) (E k:Nat) (h:cs=(aR ps).toArray) (hk:k=ps.length) (hm:k≤100):(w.alloc (.cells cs E)).ownsRow w.heap.size E 5 (.slice (some ⟨w.heap.size,0,none⟩) k k) ps.length (aR ps):=by
 subst h hk;refine ⟨cd ps,.inr ⟨w.heap.size,ps.length,_,rfl,Nat.le_refl _,heap_alloc_new w _,Nat.le_refl _,by unfold maxLen;omega,by simp [cd],?_⟩⟩;rw [←cd];simp
theorem bT (w:World) (ps:List Pr) (cs:Array Value) (E k:Nat) (h:cs=(aR ps).toArray) (hk:k=ps.length) (hm:k≤100):ai E ps w (.returned (.slice (some ⟨w.heap.size,0,none⟩) k k)) (w.alloc (.cells cs E)):=
 ⟨_,rfl,qp2 w ps cs E k h hk hm,(Below.refl _ _).alloc (Nat.le_refl _) _⟩
theorem qd8 (n c:Nat) (A:Option Addr) (L ps:List Pr) (cs:Array Value) (k:Nat) (w:World) (r:RdP w w.heap.size (.slice A n c) L) (hn:n≤100) (h:cs=(aR ps).toArray) (hk:k=ps.length) (h0:0<k) (h1:k≤100) :
  Calls Tryz.prog 62 #[.slice (some ⟨w.heap.size+1,0,none⟩) 2 2] ((w.alloc (.cells cs 76)).alloc (.cells #[.slice A n c,.slice (some ⟨w.heap.size,0,none⟩) k k] 48)) (ai 76 (L++ps) w):=by
 have b1:Below w.heap.size w (w.alloc (.cells cs 76)):=(Below.refl _ _).alloc (Nat.le_refl _) _;have s1:=qao w (.cells cs 76);have x2:=RdP.lit w ps cs 76 k k h hk;have x1:=r.below b1 (Nat.le_refl _);generalize w.alloc (.cells cs 76)=W1 at *;obtain ⟨W2,hW2⟩:∃ W2,W2=W1.alloc (.cells #[.slice A n c,.slice (some ⟨w.heap.size,0,none⟩) k k] 48):=⟨_,rfl⟩
 have b2:Below W1.heap.size W1 W2:=by rw [hW2];exact (Below.refl _ _).alloc (Nat.le_refl _) _
 have s2:W2.heap.size=W1.heap.size+1:=by rw [hW2,qao]
 have hrow:W2.heap[W1.heap.size]? = some (.cells #[.slice A n c,.slice (some ⟨w.heap.size,0,none⟩) k k] 48 (0,0)):=by rw [hW2];exact heap_alloc_new _ _
 rw [←hW2,←s1];refine (qes W1.heap.size 2 n k c k A (some ⟨w.heap.size,0,none⟩) L ps W2 ((x1.below b2 (by omega)).more (by omega)) ((x2.below b2 (by omega)).more (by omega)) ?_ ?_ (by omega) (by omega) hn h1).mono fun e w' hg=>ai.down hg (b1.trans (b2.mono (by omega)))
 ·rw [cell_of_row _ _ _ _ _ _ hrow];rfl
 ·rw [cell_of_row _ _ _ _ _ _ hrow];rfl
theorem qh5 (w:World) (ps:List Pr) (cs:Array Value) (E:Nat) (h:cs=(aR ps).toArray):∀ j u,(aR ps)[j]? = some u→(w.alloc (.cells cs E)).cell? ((⟨w.heap.size,0,none⟩:Addr).add j)=some u:=by
 subst h;exact World.news_of_block (heap_alloc_new w _)
def cC:List Pr:=[⟨[99,111,110,116,101,120,116,115],17,[112,114,105,118,97,116,101,32,119,111,114,107],false,[]⟩,⟨[112,114,101,102],5,[],false,[]⟩]
def qbH:List Pr:=[⟨[108,97,98,101,108],1,[],false,[]⟩]
def qjv:List Pr:=[⟨[109,101,100,105,97,84,121,112,101],9,[],false,[]⟩,⟨[117,114,105],8,[],true,[]⟩]
def qds:List Pr:=[⟨[99,114,101,97,116,101,100],7,[],false,[]⟩,⟨[107,101,121,119,111,114,100,115],16,[],false,[]⟩,⟨[107,105,110,100],11,[97,112,112,108,105,99,97,116,105,111,110,32,100,101,118,105,99,101,32,103,114,111,117,112,32,105,110,100,105,118,105,100,117,97,108,32,108,111,99,97,116,105,111,110,32,111,114,103],false,[105,110,100,105,118,105,100,117,97,108]⟩,⟨[108,97,110,103,117,97,103,101],10,[],false,[]⟩,⟨[109,101,109,98,101,114,115],16,[],false,[]⟩,⟨[110,97,109,101],12,[78,97,109,101],false,[]⟩,⟨[112,114,111,100,73,100],1,[],false,[]⟩,⟨[114,101,108,97,116,101,100,84,111],15,[82,101,108,97,116,105,111,110],false,[]⟩,⟨[117,105,100],2,[],true,[]⟩,⟨[117,112,100,97,116,101,100],7,[],false,[]⟩,⟨[118,101,114,115,105,111,110],11,[49,46,48],true,[]⟩]
def qfU:List Pr:=[⟨[97,100,100,114,101,115,115,101,115],14,[65,100,100,114,101,115,115],false,[]⟩,⟨[97,110,110,105,118,101,114,115,97,114,105,101,115],14,[65,110,110,105,118,101,114,115,97,114,121],false,[]⟩,⟨[101,109,97,105,108,115],14,[69,109,97,105,108,65,100,100,114,101,115,115],false,[]⟩,⟨[108,105,110,107,115],14,[76,105,110,107],false,[]⟩,⟨[109,101,100,105,97],14,[77,101,100,105,97],false,[]⟩,⟨[110,105,99,107,110,97,109,101,115],14,[78,105,99,107,110,97,109,101],false,[]⟩,⟨[110,111,116,101,115],14,[78,111,116,101],false,[]⟩,⟨[111,110,108,105,110,101,83,101,114,118,105,99,101,115],14,[79,110,108,105,110,101,83,101,114,118,105,99,101],false,[]⟩,⟨[111,114,103,97,110,105,122,97,116,105,111,110,115],14,[79,114,103,97,110,105,122,97,116,105,111,110],false,[]⟩,⟨[112,104,111,110,101,115],14,[80,104,111,110,101],false,[]⟩,⟨[112,114,101,102,101,114,114,101,100,76,97,110,103,117,97,103,101,115],14,[76,97,110,103,117,97,103,101,80,114,101,102],false,[]⟩,⟨[116,105,116,108,101,115],14,[84,105,116,108,101],false,[]⟩]
def qnh:List Pr:=[⟨[99,111,110,116,101,120,116,115],17,[98,105,108,108,105,110,103,32,100,101,108,105,118,101,114,121,32,112,114,105,118,97,116,101,32,119,111,114,107],false,[]⟩,⟨[99,111,111,114,100,105,110,97,116,101,115],8,[],false,[]⟩,⟨[99,111,117,110,116,114,121,67,111,100,101],1,[],false,[]⟩,⟨[112,114,101,102],5,[],false,[]⟩,⟨[116,105,109,101,90,111,110,101],1,[],false,[]⟩]
def qtq:List Pr:=[⟨[99,111,110,116,101,120,116,115],17,[112,114,105,118,97,116,101,32,119,111,114,107],false,[]⟩,⟨[110,97,109,101],1,[],false,[]⟩,⟨[115,111,114,116,65,115],1,[],false,[]⟩,⟨[117,110,105,116,115],13,[79,114,103,85,110,105,116],false,[]⟩]
def qiT:List Pr:=[⟨[107,105,110,100],11,[114,111,108,101,32,116,105,116,108,101],false,[116,105,116,108,101]⟩,⟨[110,97,109,101],1,[],true,[]⟩,⟨[111,114,103,97,110,105,122,97,116,105,111,110,73,100],6,[],false,[]⟩]
def qkj (q:List UInt8):List Pr:=[⟨[107,105,110,100],11,q,true,[]⟩,⟨[118,97,108,117,101],1,[],true,[]⟩]
def qfx (q:List UInt8):List Pr:=[⟨[99,111,109,112,111,110,101,110,116,115],13,q,false,[]⟩,⟨[100,101,102,97,117,108,116,83,101,112,97,114,97,116,111,114],1,[],false,[]⟩,⟨[102,117,108,108],1,[],false,[]⟩,⟨[105,115,79,114,100,101,114,101,100],3,[],false,[102,97,108,115,101]⟩]
theorem qjz (w:World):Calls Tryz.prog 63 #[] w (ai 76 qds w):=by
 go_enter Tryz.func63,Tryz.ntmps63;go_wp2;go_ret;exact bT w qds _ _ _ (by kernel_rfl) rfl (by decide)
theorem qlo (w:World):Calls Tryz.prog 64 #[] w (ai 76 qfU w):=by
 go_enter Tryz.func64,Tryz.ntmps64;go_wp2;go_ret;exact bT w qfU _ _ _ (by kernel_rfl) rfl (by decide)
theorem qpE (w:World):Calls Tryz.prog 71 #[] w (ai 76 qtq w):=by
 go_enter Tryz.func71,Tryz.ntmps71;go_wp2;go_ret;exact bT w qtq _ _ _ (by kernel_rfl) rfl (by decide)
theorem qmk (w:World):Calls Tryz.prog 72 #[] w (ai 76 qiT w):=by
 go_enter Tryz.func72,Tryz.ntmps72;go_wp2;go_ret;exact bT w qiT _ _ _ (by kernel_rfl) rfl (by decide)
theorem qbn (X:ByteArray) (w:World):Calls Tryz.prog 66 #[.string X] w (ai 76 (qkj X.data.toList) w):=by
 go_enter Tryz.func66,Tryz.ntmps66;go_wp2;go_ret;exact bT w (qkj X.data.toList) _ _ _ rfl rfl (by show 2≤100;decide)
theorem qbt (n c:Nat) (A:Option Addr) (L:List Pr) (w:World) (r:RdP w w.heap.size (.slice A n c) L) (hn:n≤50) :
  Calls Tryz.prog 68 #[.slice A n c] w (ai 76 (L++cC) w):=by
 have HC:=zh (qd8 n c A L cC (aR cC).toArray 2 w r (by omega) rfl rfl (by decide) (by decide));clear r;go_enter Tryz.func68,Tryz.ntmps68;go_wp2_with fail;refine HC.out.mono ?_;rintro e w1 ⟨v,rfl,hown,hb⟩;go_wp2_with fail;go_ret;exact ⟨_,rfl,hown,hb⟩
theorem qeU (X:ByteArray) (n c:Nat) (A:Option Addr) (L:List Pr) (w:World) (r:RdP w w.heap.size (.slice A n c) L) (hn:n≤50) :
  Calls Tryz.prog 70 #[.string X,.slice A n c] w (ai 76 (L++qfx X.data.toList) w):=by
 have HC:=zh (qd8 n c A L (qfx X.data.toList) (aR (qfx X.data.toList)).toArray 4 w r (by omega) rfl rfl (by decide) (by decide));clear r;go_enter Tryz.func70,Tryz.ntmps70;go_wp2_with fail;refine HC.out.mono ?_;rintro e w1 ⟨v,rfl,hown,hb⟩;go_wp2_with fail;go_ret;exact ⟨_,rfl,hown,hb⟩
theorem qbP (n c:Nat) (A:Option Addr) (L:List Pr) (w:World) (r:RdP w w.heap.size (.slice A n c) L) (hn:n≤50) :
  Calls Tryz.prog 67 #[.slice A n c] w (ai 76 (L++cC++qbH) w):=by
 obtain ⟨i0,hi,hz0,hz1,hz2⟩:=info_parts qgm;have HC:=zh (qbt n c A L w r hn);have HL:=zh (show (L++cC).length≤60 by simp only [List.length_append,←r.news.1];simp [cC];omega);clear r;generalize L++cC=M at *;obtain ⟨S,hS⟩:∃ S,S=M++qbH:=⟨_,rfl⟩
 have HS:=zh hS;rw [←hS];clear hS;go_enter Tryz.func67,Tryz.ntmps67;go_wp2_with fail;refine HC.out.mono ?_;rintro e w1 ⟨v,rfl,hown,hb⟩;have HO:=zh hown;have HB:=zh hb;clear hown hb;go_wp2_with (at_builtin;refine bl rfl _ _ 48 rfl w.heap.size 76 i0 _ 5 64 Tryz.underlying48 hi hz0 hz1 hz2 (by rfl) (by decide) v M.length (aR M) rfl (HO.out.alloc _) (some ⟨w1.heap.size,0,none⟩) 1 1 (aR qbH) rfl rfl (fun e=>by cases e) (fun ad e j u hu=>by injection e with e;subst e;exact qh5 w1 qbH _ _ rfl j u hu) (qah _) ?q1 ?q2 ?q3 ?_)
 case q1=>have:=HL.out;unfold maxLen;omega
 case q2=>have:=HL.out;omega
 case q3=>rw [qao];have:=HB.out.size;omega
 intro v2 w2 hown2 hg2;have HB2:=zh (show Below w.heap.size w w2 from (HB.out.alloc HB.out.size _).grown hg2 (by rw [qao];have:=HB.out.size;omega) (fun k hk=>(HO.out.lt k hk).1));have HO2:=zh (show w2.ownsRow w.heap.size 76 5 v2 S.length (aR S) by
  rw [HS.out,qaG,List.length_append];exact hown2)
 clear hown2 hg2;go_wp2_with fail;go_ret;exact ⟨_,rfl,HO2.out,HB2.out⟩
theorem qgw (n c:Nat) (A:Option Addr) (L:List Pr) (w:World) (r:RdP w w.heap.size (.slice A n c) L) (hn:n≤50) :
  Calls Tryz.prog 69 #[.slice A n c] w (ai 76 (L++cC++qbH++qjv) w):=by
 obtain ⟨i0,hi,hz0,hz1,hz2⟩:=info_parts qgm;have HC:=zh (qbP n c A L w r hn);have HL:=zh (show (L++cC++qbH).length≤60 by simp only [List.length_append,←r.news.1];simp [cC,qbH];omega);clear r;generalize L++cC++qbH=M at *;obtain ⟨S,hS⟩:∃ S,S=M++qjv:=⟨_,rfl⟩
 have HS:=zh hS;rw [←hS];clear hS;go_enter Tryz.func69,Tryz.ntmps69;go_wp2_with fail;refine HC.out.mono ?_;rintro e w1 ⟨v,rfl,hown,hb⟩;have HO:=zh hown;have HB:=zh hb;clear hown hb;go_wp2_with (at_builtin;refine bl rfl _ _ 48 rfl w.heap.size 76 i0 _ 5 64 Tryz.underlying48 hi hz0 hz1 hz2 (by rfl) (by decide) v M.length (aR M) rfl (HO.out.alloc _) (some ⟨w1.heap.size,0,none⟩) 2 2 (aR qjv) rfl rfl (fun e=>by cases e) (fun ad e j u hu=>by injection e with e;subst e;exact qh5 w1 qjv _ _ rfl j u hu) (qah _) ?q1 ?q2 ?q3 ?_)
 case q1=>have:=HL.out;unfold maxLen;omega
 case q2=>have:=HL.out;omega
 case q3=>rw [qao];have:=HB.out.size;omega
 intro v2 w2 hown2 hg2;have HB2:=zh (show Below w.heap.size w w2 from (HB.out.alloc HB.out.size _).grown hg2 (by rw [qao];have:=HB.out.size;omega) (fun k hk=>(HO.out.lt k hk).1));have HO2:=zh (show w2.ownsRow w.heap.size 76 5 v2 S.length (aR S) by
  rw [HS.out,qaG,List.length_append];exact hown2)
 clear hown2 hg2;go_wp2_with fail;go_ret;exact ⟨_,rfl,HO2.out,HB2.out⟩
theorem qbq (ps:List Pr) (cs:Array Value) (k:Nat) (w:World) (h:cs=(aR ps).toArray) (hk:k=ps.length) (hn:k≤50) :
  Calls Tryz.prog 68 #[.slice (some ⟨w.heap.size,0,none⟩) k k] (w.alloc (.cells cs 76)) (ai 76 (ps++(cC)) w):=by
 have h2:=RdP.lit w ps cs 76 k k h hk;rw [←qao w (.cells cs 76)] at h2;have h3:=qbt k k _ ps _ h2 hn;exact h3.mono fun e w' hg=>ai.down hg ((Below.refl _ _).alloc (Nat.le_refl _) _)
theorem qai (ps:List Pr) (cs:Array Value) (k:Nat) (w:World) (h:cs=(aR ps).toArray) (hk:k=ps.length) (hn:k≤50) :
  Calls Tryz.prog 67 #[.slice (some ⟨w.heap.size,0,none⟩) k k] (w.alloc (.cells cs 76)) (ai 76 (ps++(cC++qbH)) w):=by
 have h2:=RdP.lit w ps cs 76 k k h hk;rw [←qao w (.cells cs 76)] at h2;have h3:=qbP k k _ ps _ h2 hn;simp only [List.append_assoc] at h3;exact h3.mono fun e w' hg=>ai.down hg ((Below.refl _ _).alloc (Nat.le_refl _) _)
theorem qb6 (ps:List Pr) (cs:Array Value) (k:Nat) (w:World) (h:cs=(aR ps).toArray) (hk:k=ps.length) (hn:k≤50) :
  Calls Tryz.prog 69 #[.slice (some ⟨w.heap.size,0,none⟩) k k] (w.alloc (.cells cs 76)) (ai 76 (ps++(cC++qbH++qjv)) w):=by
 have h2:=RdP.lit w ps cs 76 k k h hk;rw [←qao w (.cells cs 76)] at h2;have h3:=qgw k k _ ps _ h2 hn;simp only [List.append_assoc] at h3 ⊢;exact h3.mono fun e w' hg=>ai.down hg ((Below.refl _ _).alloc (Nat.le_refl _) _)
theorem qiw (X:ByteArray) (ps:List Pr) (cs:Array Value) (k:Nat) (w:World) (h:cs=(aR ps).toArray) (hk:k=ps.length) (hn:k≤50) :
  Calls Tryz.prog 70 #[.string X,.slice (some ⟨w.heap.size,0,none⟩) k k] (w.alloc (.cells cs 76)) (ai 76 (ps++qfx X.data.toList) w):=by
 have h2:=RdP.lit w ps cs 76 k k h hk;rw [←qao w (.cells cs 76)] at h2;exact (qeU X k k _ ps _ h2 hn).mono fun e w' hg=>ai.down hg ((Below.refl _ _).alloc (Nat.le_refl _) _)
def qt3:List Pr:=qnh++qfx [65,100,100,114,101,115,115,67,111,109,112,111,110,101,110,116]
theorem qg2 (w:World):Calls Tryz.prog 65 #[] w (ai 76 qt3 w):=by
 have HC:=zh (qiw ⟨#[65,100,100,114,101,115,115,67,111,109,112,111,110,101,110,116]⟩ qnh (aR qnh).toArray 5 w rfl rfl (by decide));go_enter Tryz.func65,Tryz.ntmps65;go_wp2_with fail;refine HC.out.mono ?_;rintro e w1 ⟨v,rfl,hown,hb⟩;go_wp2_with fail;go_ret;exact ⟨_,rfl,hown,hb⟩
