/- Merged: StA StS StD StB. -/
import Derived.Test.YtnecfkhbncepnaaGreatDoorTt7
import Derived.Deep.DeepCutAuto
import Derived.Deep.RegionWith
import Derived.Laws.Concat
import Derived.Test.YtnecfkhbncepnaaGreatDoorTt2
import Derived.Lib.ConvBytes
set_option maxRecDepth 100000
set_option maxHeartbeats 1000000
namespace Go.Proofs.YtnecfkhbncepnaaGreatDoor
namespace St
open Go.RowKit Utf Nu
theorem qcn {y:Int} (h:0≤y) (n:Int):y.tmod n=y % n:=Int.tmod_eq_emod_of_nonneg h
theorem qcb {y:Int} (h:0≤y) (n:Int):y.tdiv n=y / n:=Int.tdiv_eq_ediv_of_nonneg h
theorem qeR (y:Int) (w:World) (h0:0≤y):Calls Tryz.prog 214 #[.int .i64 y] w fun e w'=>e = .returned (.bool (qdq y))∧w=w':=by
 have m4:=qcn h0 4;have m100:=qcn h0 100;have m400:=qcn h0 400;by_cases c4:y % 4=0
 ·by_cases c100:y % 100=0
  ·by_cases c400:y % 400=0
   ·have hl:qdq y=true:=zT (.inr c400);rw [hl];have t4:(y % 4==0)=true:=beq_iff_eq.2 c4;have t100:(y % 100==0)=true:=beq_iff_eq.2 c100;have t101:(y % 100 != 0)=false:=by simp [c100]
    have t400:(y % 400==0)=true:=beq_iff_eq.2 c400;clear c4 c100 c400 hl;go_enter Tryz.func214,Tryz.ntmps214;go_wp2;go_ret;exact ⟨rfl,rfl⟩
   ·have hl:qdq y=false:=zF (by omega);rw [hl];have t4:(y % 4==0)=true:=beq_iff_eq.2 c4;have t101:(y % 100 != 0)=false:=by simp [c100]
    have t400:(y % 400==0)=false:=beq_eq_false_iff_ne.2 c400;clear c4 c100 c400 hl;go_enter Tryz.func214,Tryz.ntmps214;go_wp2;go_ret;exact ⟨rfl,rfl⟩
  ·have hl:qdq y=true:=zT (.inl ⟨c4,c100⟩);rw [hl];have t4:(y % 4==0)=true:=beq_iff_eq.2 c4;have t101:(y % 100 != 0)=true:=by simp [c100]
   clear c4 c100 hl;go_enter Tryz.func214,Tryz.ntmps214;go_wp2;go_ret;exact ⟨rfl,rfl⟩
 ·have hl:qdq y=false:=zF (by omega);rw [hl];have t4:(y % 4==0)=false:=beq_eq_false_iff_ne.2 c4;have t400:(y % 400==0)=false:=beq_eq_false_iff_ne.2 (by omega);clear c4 hl;go_enter Tryz.func214,Tryz.ntmps214;go_wp2;go_ret;exact ⟨rfl,rfl⟩
theorem qdQ (y m:Int) (w:World) (T:Tab w) (h0:0≤y) (hm1:1≤m) (hm2:m≤12):Calls Tryz.prog 201 #[.int .i64 y,.int .i64 m] w fun e w'=>e = .returned (.int .i64 (b7 y m))∧w=w':=by
 have hc:=T.1 (m-1).toNat (by omega);rw [show (m-1).toNat=(m-1).toNat from rfl] at hc;have hk:(((m-1).toNat:Nat):Int)=m-1:=by omega
 by_cases h2:m=2
 ·subst h2;by_cases hl:qdq y=true
  ·have he:b7 y 2=29:=by unfold b7;rw [if_pos rfl,if_pos hl]
   rw [he];have C:=zh (qeR y w h0);rw [hl] at C;clear he hl hc hk;go_enter Tryz.func201,Tryz.ntmps201;go_wp2_with fail;refine C.out.mono ?_;rintro e w1 ⟨rfl,rfl⟩;go_wp2_with fail;go_ret;exact ⟨rfl,rfl⟩
  ·have hm:=qni y 2 (by omega) (by omega) (fun h=>hl h.2);rw [←hm];have hl:qdq y=false:=Bool.eq_false_iff.2 hl;have C:=zh (qeR y w h0);rw [hl] at C;have hc:w.cell? ⟨2,1,none⟩=some (.int .i64 (mdl 1)):=T.1 1 (by omega);have e1:mdl ((2:Int)-1).toNat=mdl 1:=rfl;rw [e1];generalize mdl 1=R at *;clear hl hk hm;go_enter Tryz.func201,Tryz.ntmps201;go_wp2_with fail;refine C.out.mono ?_;rintro e w1 ⟨rfl,rfl⟩;go_wp2_with fail;go_ret;exact ⟨rfl,rfl⟩
 ·have hm:=qni y m hm1 hm2 (fun h=>h2 h.1);rw [←hm];have t2:(m==2)=false:=beq_eq_false_iff_ne.2 h2;have x1:IntKind.i64.wrap (m-1)=m-1:=IntWalk.i64_in _ (by omega);generalize mdl (m-1).toNat=R at *;obtain ⟨k,hk2⟩:∃ k:Nat,m=k+1:=⟨(m-1).toNat,by omega⟩
  subst hk2;rw [show ((k:Int)+1-1).toNat=k by omega] at hc;have b12:k<12:=by omega
  clear hm h2 hk;go_enter Tryz.func201,Tryz.ntmps201;go_wp2_with fail;go_ret;exact ⟨rfl,rfl⟩
theorem qfb (y:Int) (w:World) (h0:0≤y) (h1:y≤10001):Calls Tryz.prog 202 #[.int .i64 y] w fun e w'=>e = .returned (.int .i64 (dK y))∧w=w':=by
 have m400:=qcn h0 400;have d400:=qcb h0 400;have p0:0≤y % 400:=by omega
 have d4:=qcb (y:=y % 400+3) (by omega) 4;have d100:=qcb (y:=y % 400+99) (by omega) 100;have dd:=qcb (y:=y % 400+399) (by omega) 400;have hA:dK y=y / 400*146097+y % 400*365+((y % 400+3) / 4-(y % 400+99) / 100+(y % 400+399) / 400):=rfl;rw [hA];clear hA;have b1:0≤y / 400∧y / 400≤25:=by omega
 have b2:y % 400<400:=by omega
 have b4:0≤(y % 400+3) / 4∧(y % 400+3) / 4≤101:=by omega
 have b100:0≤(y % 400+99) / 100∧(y % 400+99) / 100≤5:=by omega
 have bd:0≤(y % 400+399) / 400∧(y % 400+399) / 400≤2:=by omega
 go_enter Tryz.func202,Tryz.ntmps202;go_wp2_with fail;go_ret;exact ⟨rfl,rfl⟩
def qcd (p l:List UInt8):Bool:=decide (p.length≤l.length)&&(l.take p.length==p)
def qbg (p l:List UInt8):Bool:=decide (p.length≤l.length)&&(l.drop (l.length-p.length)==p)
theorem exT (s:ByteArray) (n:Nat):(s.extract 0 n).data.toList=s.data.toList.take n:=by
 rw [ByteArray.data_extract];simp
theorem exD (s:ByteArray) (n:Nat):(s.extract n s.size).data.toList=s.data.toList.drop n:=by
 rw [ByteArray.data_extract];simp only [Array.toList_extract,List.extract];exact List.take_of_length_le (by rw [List.length_drop,ac];exact Nat.le_refl _)
theorem qtG (c:UInt8) (l:List UInt8):qcd [c] l=decide (0<l.length∧byt l 0=(c.toNat:Int)):=by
 unfold qcd;cases l with
 | nil=>rfl
 | cons a r=>
  have h1:decide ([c].length≤(a::r).length)=true:=zT (by simp);have h2:(a::r).take [c].length=[a]:=rfl;rw [h1,h2,Bool.true_and,Bool.eq_iff_iff,beq_iff_eq,decide_eq_true_eq,d6];constructor
  ·intro h;obtain rfl:=(List.cons.inj h).1;exact ⟨by simp,rfl⟩
  ·rintro ⟨_,h⟩;rw [UInt8.toNat.inj (show a.toNat=c.toNat by omega)]
theorem qtX (c:UInt8) (l:List UInt8):qbg [c] l=decide (0<l.length∧byt l (l.length-1)=(c.toNat:Int)):=by
 unfold qbg;rw [Bool.eq_iff_iff];simp only [List.length_cons,List.length_nil,Bool.and_eq_true,decide_eq_true_eq,beq_iff_eq,Nat.zero_add];constructor
 ·rintro ⟨h1,h2⟩;refine ⟨by omega,?_⟩;have:=di l (l.length-1) 0;rw [h2,d6,Nat.add_zero] at this;exact this.symm
 ·rintro ⟨h1,h2⟩;refine ⟨by omega,?_⟩;have hl:(l.drop (l.length-1)).length=1:=by rw [List.length_drop];omega
  have hb:=di l (l.length-1) 0;rw [Nat.add_zero,h2] at hb
  match h:l.drop (l.length-1),hl with
  | [a],_=>
   rw [h,d6] at hb;rw [UInt8.toNat.inj (show a.toNat=c.toNat by omega)]
theorem qjd (s p:ByteArray) (w:World) :
  Calls Tryz.prog 196 #[.string s,.string p] w fun e w'=>e = .returned (.bool (qcd p.data.toList s.data.toList))∧w=w':=by
 unfold qcd;rw [ac,ac];by_cases h:p.size≤s.size
 ·have t1:decide ((p.size:Int)≤(s.size:Int))=true:=zT (by omega);have t2:decide (p.size≤s.size)=true:=zT h;have k0:(0:Int)≤(p.size:Int):=by omega
  have k1:(p.size:Int)≤(s.size:Int):=by omega
  go_enter Tryz.func196,Tryz.ntmps196;go_wp2;go_ret;refine ⟨?_,rfl⟩;rw [t2,Bool.true_and];refine aW ?_;rw [ByteArray.toList_eq,ByteArray.toList_eq,exT]
 ·have t1:decide ((p.size:Int)≤(s.size:Int))=false:=zF (by omega);have t2:decide (p.size≤s.size)=false:=zF h;go_enter Tryz.func196,Tryz.ntmps196;go_wp2;go_ret;refine ⟨?_,rfl⟩;rw [t2,Bool.false_and];rfl
theorem qiv (s p:ByteArray) (w:World) (hs:s.size≤9223372036854775807) :
  Calls Tryz.prog 224 #[.string s,.string p] w fun e w'=>e = .returned (.bool (qbg p.data.toList s.data.toList))∧w=w':=by
 unfold qbg;rw [ac,ac];by_cases h:p.size≤s.size
 ·have t1:decide ((p.size:Int)≤(s.size:Int))=true:=zT (by omega);have t2:decide (p.size≤s.size)=true:=zT h;obtain ⟨q,hq⟩:∃ q:Nat,(s.size:Int)-(p.size:Int)=q:=⟨s.size-p.size,by omega⟩
  have hq2:s.size-p.size=q:=by omega
  have k0:(0:Int)≤(q:Int):=by omega
  have k1:(q:Int)≤(s.size:Int):=by omega
  rw [hq2];go_enter Tryz.func224,Tryz.ntmps224;go_wp2;go_ret;refine ⟨?_,rfl⟩;rw [t2,Bool.true_and];refine aW ?_;rw [ByteArray.toList_eq,ByteArray.toList_eq,exD]
 ·have t1:decide ((p.size:Int)≤(s.size:Int))=false:=zF (by omega);have t2:decide (p.size≤s.size)=false:=zF h;go_enter Tryz.func224,Tryz.ntmps224;go_wp2;go_ret;refine ⟨?_,rfl⟩;rw [t2,Bool.false_and];rfl
theorem qg3 (s p:ByteArray) (w:World) :
  Calls Tryz.prog 221 #[.string s,.string p] w fun e w'=>e = .returned (.tuple #[.string (if qcd p.data.toList s.data.toList=true then s.extract p.size s.size else s),.bool (qcd p.data.toList s.data.toList)])∧w=w':=by
 have HH:=zh (fun (W:World)=>qjd s p W);have HP:=zh (show qcd p.data.toList s.data.toList=true→p.size≤s.size from fun h=>by
  have:=(Bool.and_eq_true_iff.1 h).1;rw [ac,ac] at this;exact of_decide_eq_true this)
 generalize qcd p.data.toList s.data.toList=b at *;cases b with
 | false=>
  go_enter Tryz.func221,Tryz.ntmps221;go_wp2_with fail;refine (HH.out _).mono ?_;rintro e w1 ⟨rfl,rfl⟩;go_wp2;go_ret2
  exact ⟨rfl,rfl⟩
 | true=>
  have h:=HP.out rfl;have k0:(0:Int)≤(p.size:Int):=by omega
  have k1:(p.size:Int)≤(s.size:Int):=by omega
  clear h;go_enter Tryz.func221,Tryz.ntmps221;go_wp2_with fail;refine (HH.out _).mono ?_;rintro e w1 ⟨rfl,rfl⟩;go_wp2;go_ret2
  exact ⟨rfl,rfl⟩
theorem qii (s p:ByteArray) (w:World) (hs:s.size≤9223372036854775807) :
  Calls Tryz.prog 222 #[.string s,.string p] w fun e w'=>e = .returned (.tuple #[.string (if qbg p.data.toList s.data.toList=true then s.extract 0 (s.size-p.size) else s),.bool (qbg p.data.toList s.data.toList)])∧w=w':=by
 have HH:=zh (fun (W:World)=>qiv s p W hs);have HP:=zh (show qbg p.data.toList s.data.toList=true→p.size≤s.size from fun h=>by
  have:=(Bool.and_eq_true_iff.1 h).1;rw [ac,ac] at this;exact of_decide_eq_true this)
 generalize qbg p.data.toList s.data.toList=b at *;cases b with
 | false=>
  go_enter Tryz.func222,Tryz.ntmps222;go_wp2_with fail;refine (HH.out _).mono ?_;rintro e w1 ⟨rfl,rfl⟩;go_wp2;go_ret2
  exact ⟨rfl,rfl⟩
 | true=>
  have h:=HP.out rfl;obtain ⟨q,hq⟩:∃ q:Nat,(s.size:Int)-(p.size:Int)=q:=⟨s.size-p.size,by omega⟩
  have hq2:s.size-p.size=q:=by omega
  have k0:(0:Int)≤(q:Int):=by omega
  have k1:(q:Int)≤(s.size:Int):=by omega
  rw [hq2];clear h hq2;go_enter Tryz.func222,Tryz.ntmps222;go_wp2_with fail;refine (HH.out _).mono ?_;rintro e w1 ⟨rfl,rfl⟩;go_wp2;go_ret2
  exact ⟨rfl,rfl⟩
theorem qiA (s p:ByteArray) (w:World) :
  Calls Tryz.prog 212 #[.string s,.string p] w fun e w'=>e = .returned (.tuple #[.string (if qcd p.data.toList s.data.toList=true then s.extract p.size s.size else s),.bool (qcd p.data.toList s.data.toList)])∧w=w':=by
 have HH:=zh (fun (W:World)=>qg3 s p W);generalize (if qcd p.data.toList s.data.toList=true then s.extract p.size s.size else s)=X at *;generalize qcd p.data.toList s.data.toList=b at *;go_enter Tryz.func212,Tryz.ntmps212;go_wp2_with fail;refine (HH.out _).mono ?_;rintro e w1 ⟨rfl,rfl⟩;go_wp2;go_ret2
 exact ⟨rfl,rfl⟩
theorem qeb (s p:ByteArray) (w:World) (hs:s.size≤9223372036854775807) :
  Calls Tryz.prog 213 #[.string s,.string p] w fun e w'=>e = .returned (.tuple #[.string (if qbg p.data.toList s.data.toList=true then s.extract 0 (s.size-p.size) else s),.bool (qbg p.data.toList s.data.toList)])∧w=w':=by
 have HH:=zh (fun (W:World)=>qii s p W hs);generalize (if qbg p.data.toList s.data.toList=true then s.extract 0 (s.size-p.size) else s)=X at *;generalize qbg p.data.toList s.data.toList=b at *;go_enter Tryz.func213,Tryz.ntmps213;go_wp2_with fail;refine (HH.out _).mono ?_;rintro e w1 ⟨rfl,rfl⟩;go_wp2;go_ret2
 exact ⟨rfl,rfl⟩
theorem qfL (b:Int) (w:World):Calls Tryz.prog 199 #[.int .u8 b] w fun e w'=>e = .returned (.bool (isD b))∧w=w':=by
 go_enter Tryz.func199,Tryz.ntmps199;go_wp2
 all_goals
  go_ret;exact ⟨aW (by rw [Bool.eq_iff_iff];simp [isD];omega),rfl⟩
theorem qkk (w:World) (e:TypeId) (s:ByteArray):Below w.heap.size w (Lib.bytesWorld w e s):=
 ⟨rfl,rfl,rfl,by rw [Lib.bytesWorld_size];omega,fun j hj=>Lib.bytesWorld_at_old w e s j hj⟩
theorem qrk (w:World) (s:ByteArray):(convert 9 94 (.string s)).run Tryz.prog w = .ok (.slice (some ⟨w.heap.size,0,none⟩) s.size (grownCap w s.size 0 5)) (Lib.bytesWorld w 5 s):=
 Lib.run_convert_string_bytes w _ _ _ s Tryz.underlying9 Tryz.underlying94 Tryz.underlying5
theorem qrh (w:World) (e:TypeId) (s:ByteArray) (j:Nat) (hj:j<s.size):(Lib.bytesWorld w e s).cell? ⟨w.heap.size,j,none⟩=some (.int .u8 (byt s.data.toList j)):=by
 rw [Lib.bytesWorld_cell w _ _ j hj];rfl
theorem qrj (l:List UInt8) (p:Nat):∀ k,bk l p k=true→aH l p k<10 ^ k
 | 0,_=>by rw [aH];decide
 | k+1,h=>by
  rw [bk,Bool.and_eq_true] at h;have:=qrj l p k h.1;have:=dN h.2;rw [aH,Nat.pow_succ];omega
theorem qtE {k:Nat} (h:k≤9):10 ^ k≤1000000000:=Nat.pow_le_pow_right (n:=10) (by omega) h
theorem qpI (s:ByteArray) (w:World) (h9:s.size≤9) (hd:bk s.data.toList 0 s.size=true) :
  Calls Tryz.prog 178 #[.string s] w (qbk (.int .i64 (aH s.data.toList 0 s.size:Nat)) w):=by
 have hcv:=qrk w s;obtain ⟨W1,hW1⟩:∃ W1,W1=Lib.bytesWorld w 5 s:=⟨_,rfl⟩
 have HB:=zh (show Below w.heap.size w W1 by rw [hW1];exact qkk _ _ _);have HC:=zh (show ∀ j,j<s.size→W1.cell? ⟨w.heap.size,j,none⟩=some (.int .u8 (byt s.data.toList j)) from fun j hj=>by rw [hW1];exact qrh _ _ _ _ hj);rw [←hW1] at hcv;obtain ⟨cp,hcp⟩:∃ cp,grownCap w s.size 0 5=cp:=⟨_,rfl⟩
 rw [hcp] at hcv;have HD:=zh hd;have hl:s.data.toList.length=s.size:=rfl;have HL:=zh hl;clear hW1 hcp hd hl;go_enter Tryz.func178,Tryz.ntmps178;go_wp2_with fail;go_loopw [3,9] (fun n i wr=>∃ k:Nat,i = .int .i64 k∧k≤s.size∧n = .int .i64 (aH s.data.toList 0 k:Nat)∧wr=W1) (fun _ i _=>s.size-(intOf i).toNat)
 case atStart=>exact ⟨0,rfl,by omega,rfl,rfl⟩
 case round=>
  obtain ⟨k,rfl,hk,rfl,hwr⟩:=hrel;obtain rfl:W1=wr:=hwr.symm;by_cases hlt:k<s.size
  ·have t1:decide ((k:Int)<(s.size:Int))=true:=zT (by omega);have i0:(0:Int)≤(k:Int):=by omega
   have i1:(k:Int)<(s.size:Int):=by omega
   have i2:((k:Int)).toNat=k:=by omega
   have hc:=HC.out k hlt;have hdk:=(bN _ _ _).1 HD.out;have hb:=dN (hdk k hlt);have ha:=qrj s.data.toList 0 k ((bN _ _ _).2 fun j hj=>hdk j (by omega));have hp:=qtE (k:=k) (by omega);have HS:=zh (show aH s.data.toList 0 (k+1)=aH s.data.toList 0 k*10+(byt s.data.toList (0+k)-48).toNat from rfl);rw [Nat.zero_add] at HS hb;obtain ⟨b,hbb⟩:∃ b:Int,byt s.data.toList k=b:=⟨_,rfl⟩
   rw [hbb] at hc HS hb;obtain ⟨a,haa⟩:∃ a:Nat,aH s.data.toList 0 k=a:=⟨_,rfl⟩
   rw [haa] at ha HS ⊢;have ha2:(a:Int)≤1000000000:=by omega
   have x1:IntKind.u8.wrap (b-48)=b-48:=IntWalk.u8_in _ (by omega);clear hbb haa hdk hp ha;go_wp2_with fail;go_roundw
   case rel=>exact ⟨k+1,by go_num,by omega,by rw [HS.out];go_num,by trivial⟩
   case measure=>simp [intOf];omega
  ·obtain rfl:k=s.size:=by omega
   have t1:decide ((s.size:Int)<(s.size:Int))=false:=zF (by omega);clear hlt hk;go_wp2_with fail;go_ret;exact ⟨rfl,HB.out⟩
def qr3 (y m d:Int):Int:=if db y m d then qem y m d-719528 else 0
def qnl (n:Int) (b:Bool) (w:World) (e:Ending) (w':World):Prop:=e = .returned (.tuple #[.int .i64 n,.bool b])∧w=w'
theorem qhS {y m d:Int} (h:db y m d):qr3 y m d=qem y m d-719528:=if_pos h
theorem qae {y m d:Int} (h:¬db y m d):qr3 y m d=0:=if_neg h
theorem qqb (y:Int) (k:Nat) (h:k≤12):0≤ez y k∧ez y k≤366:=by
 have a:=qo1 y k;have b:=qdy y k (12-k);rw [show k+(12-k)=12 by omega,qfC] at b;have:=qch y 2;have c:b7 y 2≤29:=by unfold b7;rw [if_pos rfl];split <;> omega
 omega
theorem qpa (y m d:Int) (w:World) (T:Tab w):Calls Tryz.prog 179 #[.int .i64 y,.int .i64 m,.int .i64 d] w (qnl (qr3 y m d) (decide (db y m d)) w):=by
 by_cases c1:y<0
 ·have hd:¬db y m d:=fun h=>by have:=h.1;omega
  rw [qae hd,zF hd];have t1:decide (y<0)=true:=decide_eq_true c1;clear hd c1;go_enter Tryz.func179,Tryz.ntmps179;go_wp2_with fail;go_ret2
  exact ⟨rfl,rfl⟩
 have t1:decide (y<0)=false:=decide_eq_false c1;by_cases c2:9999<y
 ·have hd:¬db y m d:=fun h=>by have:=h.2.1;omega
  rw [qae hd,zF hd];have t2:decide (9999<y)=true:=decide_eq_true c2;clear hd c1 c2;go_enter Tryz.func179,Tryz.ntmps179;go_wp2_with fail;go_ret2
  exact ⟨rfl,rfl⟩
 have t2:decide (9999<y)=false:=decide_eq_false c2;by_cases c3:m<1
 ·have hd:¬db y m d:=fun h=>by have:=h.2.2.1;omega
  rw [qae hd,zF hd];have t3:decide (m<1)=true:=decide_eq_true c3;clear hd c1 c2 c3;go_enter Tryz.func179,Tryz.ntmps179;go_wp2_with fail;go_ret2
  exact ⟨rfl,rfl⟩
 have t3:decide (m<1)=false:=decide_eq_false c3;by_cases c4:12<m
 ·have hd:¬db y m d:=fun h=>by have:=h.2.2.2.1;omega
  rw [qae hd,zF hd];have t4:decide (12<m)=true:=decide_eq_true c4;clear hd c1 c2 c3 c4;go_enter Tryz.func179,Tryz.ntmps179;go_wp2_with fail;go_ret2
  exact ⟨rfl,rfl⟩
 have t4:decide (12<m)=false:=decide_eq_false c4;by_cases c5:d<1
 ·have hd:¬db y m d:=fun h=>by have:=h.2.2.2.2.1;omega
  rw [qae hd,zF hd];have t5:decide (d<1)=true:=decide_eq_true c5;clear hd c1 c2 c3 c4 c5;go_enter Tryz.func179,Tryz.ntmps179;go_wp2_with fail;go_ret2
  exact ⟨rfl,rfl⟩
 have t5:decide (d<1)=false:=decide_eq_false c5;have C:=zh (fun wx (h:Tab wx)=>qdQ y m wx h (by omega) (by omega) (by omega));by_cases c6:b7 y m<d
 ·have hd:¬db y m d:=fun h=>by have:=h.2.2.2.2.2;omega
  rw [qae hd,zF hd];have t6:decide (b7 y m<d)=true:=decide_eq_true c6;generalize b7 y m=L at *;clear hd c1 c2 c3 c4 c5 c6;go_enter Tryz.func179,Tryz.ntmps179;go_wp2_with fail;refine (C.out _ T).mono ?_;rintro e w' ⟨rfl,rfl⟩;go_wp2_with fail;go_ret2
  exact ⟨rfl,rfl⟩
 have t6:decide (b7 y m<d)=false:=decide_eq_false c6;have hd:db y m d:=⟨by omega,by omega,by omega,by omega,by omega,by omega⟩
 have hm31:=(qch y m).2;have hdb:1≤d∧d≤31:=by omega
 have hmb:1≤m∧m≤12:=by omega
 have hA:=qeC (y:=y) (by omega) (by omega);have y0:0≤y:=by omega
 have CA:=zh (fun wx=>qfb y wx y0 (by omega));rw [qhS hd,zT hd];have HD:=zh (show qem y m d=dK y+ez y (m-1).toNat+d-1 from rfl);obtain ⟨A,hAA⟩:∃ A,dK y=A:=⟨_,rfl⟩
 rw [hAA] at CA hA HD;obtain ⟨L,hL⟩:∃ L,b7 y m=L:=⟨_,rfl⟩
 rw [hL] at C t6;clear hd c1 c2 c3 c4 c5 c6 hm31 hL hAA;go_enter Tryz.func179,Tryz.ntmps179;go_wp2_with fail;refine (C.out _ T).mono ?_;rintro e w' ⟨rfl,rfl⟩;go_wp2_with fail;refine (CA.out _).mono ?_;rintro e w' ⟨rfl,rfl⟩;go_wp2_with fail;go_loopw [8,9] (fun s i wr=>∃ k:Nat,i = .int .i64 (k+1)∧(k:Int)+1≤m∧s = .int .i64 (A+d-1+ez y k)∧wr=w) (fun _ i _=>(m-intOf i).toNat)
 case atStart=>exact ⟨0,rfl,by omega,by rw [ez];go_num,rfl⟩
 case round=>
  obtain ⟨k,rfl,hk,rfl,rfl⟩:=hrel;have hS:=qqb y k (by omega);by_cases hlt:(k:Int)+1<m
  ·have t7:decide ((k:Int)+1<m)=true:=zT hlt;have CK:=zh (fun wx (h:Tab wx)=>qdQ y (k+1) wx h y0 (by omega) (by omega));have hL2:=qch y (k+1);have HN:=zh (show ez y (k+1)=ez y k+b7 y (k+1) from rfl);obtain ⟨S,hSS⟩:∃ S,ez y k=S:=⟨_,rfl⟩
   rw [hSS] at hS HN ⊢;obtain ⟨L2,hLL⟩:∃ L2,b7 y (k+1)=L2:=⟨_,rfl⟩
   rw [hLL] at CK HN hL2;clear hSS hLL;go_wp2_with fail;refine (CK.out _ T).mono ?_;rintro e w' ⟨rfl,rfl⟩;go_wp2_with fail;go_roundw
   case rel=>exact ⟨k+1,by go_num,by omega,by rw [HN.out];go_num,by trivial⟩
   case measure=>simp [intOf];omega
  ·have t7:decide ((k:Int)+1<m)=false:=zF hlt;have hkm:(m-1).toNat=k:=by omega
   rw [hkm] at HD;obtain ⟨S,hSS⟩:∃ S,ez y k=S:=⟨_,rfl⟩
   rw [hSS] at hS HD ⊢;clear hSS hkm;go_wp2_with fail;go_ret2
   exact ⟨by rw [HD.out];go_num,by trivial⟩
