/- Merged: ReA ChA ChB. -/
import Derived.Test.YtofelafamfckiaaGreatDoorTt7
import Derived.IntWalk
import Derived.Deep.RegionHeld3
import Derived.Laws.Shifts
set_option maxRecDepth 100000
set_option maxHeartbeats 8000000
namespace Go.Proofs.YtofelafamfckiaaGreatDoor
namespace Re
open Go.RowKit Utf Sc
def qet (q:Prop) (w:World) (e:Ending) (w':World):Prop:=(∃ b,e = .returned (.bool b)∧(b=true↔q))∧Below w.heap.size w w'
theorem qd2 (w:World) (o:Obj):(w.alloc o).heap.size=w.heap.size+1:=by simp
end Re
namespace Ch
open Go.RowKit Utf
theorem dj (c:Int) (w:World) (h0:0≤c) (h1:c≤255):Calls Tryz.prog 122 #[.int .u8 c] w fun e w'=>e = .returned (.int .i32 (qbB c))∧w=w':=by
 go_enter Tryz.func122,Tryz.ntmps122;go_wp2
 all_goals
  go_ret;exact ⟨qch (by unfold qbB;(repeat' split) <;> omega),rfl⟩
theorem qay (n:Int) (w:World):Calls Tryz.prog 110 #[.int .i32 n] w fun e w'=>e = .returned (.bool (ci n))∧w=w':=by
 go_enter Tryz.func110,Tryz.ntmps110;go_wp2
 all_goals
  go_ret;exact ⟨bM (by rw [Bool.eq_iff_iff];simp [ci];omega),rfl⟩
theorem bF (n:Int) (w:World):Calls Tryz.prog 107 #[.int .i32 n] w fun e w'=>e = .returned (.bool (bI n))∧w=w':=by
 go_enter Tryz.func107,Tryz.ntmps107;go_wp2
 all_goals
  go_ret;exact ⟨bM (by rw [Bool.eq_iff_iff];simp [bI];omega),rfl⟩
theorem qjF (u b:Int) (w:World) (hu:ci u=true) (hb:bI b=true):Calls Tryz.prog 109 #[.int .i32 u,.int .i32 b] w fun e w'=>e = .returned (.int .i32 (cK u b))∧w=w':=by
 have u1:=qaK hu;have b1:=qa0 hb;clear hu hb;go_enter Tryz.func109,Tryz.ntmps109;go_wp2;go_ret;exact ⟨qch (by unfold cK;omega),rfl⟩
theorem qkW (x y:Int) (h0:0≤x) (h1:x≤4095) (h2:0≤y) (h3:y<16):bits .or .i32 (x*16) y=x*16+y:=
 bits_join .i32 31 (by decide) wraps_i32 4 (x*16) y (by omega) (by omega) (by omega) h2 h3 (by omega)
def qbD (l:List UInt8):Int×Int×Int:=if 0≤ah l then (ah l,6,0) else (0,0,20)
theorem qc0 {l:List UInt8} (h:ah l = -1):qbD l=(0,0,20):=by rw [qbD,if_neg (by omega)]
theorem qhU {l:List UInt8} (n:Int) (h:ah l=n) (h0:0≤n):qbD l=(n,6,0):=by rw [qbD,if_pos (by omega),h]
theorem qfD (s:ByteArray) (q:Nat) (w:World) (hs:s.size≤maxLen) (hq:q+1<s.size) (hb0:byt (s.data.toList.drop q) 0=92) (hb1:byt (s.data.toList.drop q) 1=117) :
  Calls Tryz.prog 120 #[.string s,.int .i64 q] w fun e w'=>
   e = .returned (.tuple #[.int .i32 (qbD (s.data.toList.drop q)).1,.int .i64 (qbD (s.data.toList.drop q)).2.1,.int .i64 (qbD (s.data.toList.drop q)).2.2])∧w=w':=by
 unfold maxLen at hs;have B0:=zh hb0;clear hb0;have B1:=zh hb1;clear hb1;have hlen:(s.data.toList.drop q).length=s.size-q:=by simp
 have HLEN:=zh hlen;clear hlen;by_cases hl:s.size-q<6
 ·have hd:decide ((s.size:Int)-(q:Int)<6)=true:=zT (by omega);have hn:ah (s.data.toList.drop q) = -1:=qaJ fun x=>by have:=HLEN.out;omega
  have HN:=zh hn;clear hn;go_enter Tryz.func120,Tryz.ntmps120;go_wp2_with fail;go_ret3
  exact ⟨by rw [qc0 HN.out];rfl,rfl⟩
 ·have hd:decide ((s.size:Int)-(q:Int)<6)=false:=zF (by omega);go_enter Tryz.func120,Tryz.ntmps120;go_wp2_with fail;go_loop [7,8,9] (fun n i _=>∃ k:Nat,k≤4∧i = .int .i64 (q+2+k:Nat)∧n = .int .i32 (qbW (s.data.toList.drop q) k)∧cD (s.data.toList.drop q) k=true) (fun _ i _=>q+6-(intOf i).toNat)
  case atStart=>exact ⟨0,by omega,by go_num,rfl,rfl⟩
  case round=>
   obtain ⟨k,hk,rfl,rfl,hok⟩:=hrel;have hbd:=qfx (s.data.toList.drop q) k hok;have OK:=zh hok;clear hok;by_cases hlt:k<4
   ·have hdk:decide (q+2+k<q+6)=true:=zT (by omega);have a0:=hbd.1;have a1:qbW (s.data.toList.drop q) k≤4095:=by
     have:=hbd.2;rcases (show k=0∨k=1∨k=2∨k=3 by omega) with rfl | rfl | rfl | rfl <;> omega
    clear hbd;have hlt2:q+2+k<s.size:=by omega
    have g:(s[q+2+k].toNat:Int)=byt (s.data.toList.drop q) (k+2):=by rw [bm,show q+(k+2)=q+2+k by omega,aY s (q+2+k) hlt2]
    have g0:=qaj (s.data.toList.drop q) (k+2);have g1:=qcF (s.data.toList.drop q) (k+2);have v0:=qkY (byt (s.data.toList.drop q) (k+2));have v1:=qgw (byt (s.data.toList.drop q) (k+2));have hstep:qbW (s.data.toList.drop q) (k+1)=qbW (s.data.toList.drop q) k*16+qbB (byt (s.data.toList.drop q) (k+2)):=rfl;have hokst:cD (s.data.toList.drop q) (k+1)=(cD (s.data.toList.drop q) k&&decide (0≤qbB (byt (s.data.toList.drop q) (k+2)))):=rfl;rw [←g] at hstep hokst g0 g1 v0 v1;clear g;have HS:=zh hstep;clear hstep;have HO:=zh hokst;clear hokst;have hi1:q+2+k<9223372036854775807:=by omega
    by_cases hv:qbB (s[q+2+k].toNat:Int)<0
    ·have hvd:decide (qbB (s[q+2+k].toNat:Int)<0)=true:=zT hv;go_wp2_with (go_at_call 122;refine (dj _ _ (by omega) (by omega)).mono ?_;rintro e w' ⟨rfl,rfl⟩)
     go_ret3
     have hno:ah (s.data.toList.drop q) = -1:=qaJ fun x=>by
      have:=qfJ (s.data.toList.drop q) (k+1) (by rw [HO.out,zF (by omega)];simp) 4 (by omega);rw [this] at x;simp at x
     exact ⟨by rw [qc0 hno];rfl,rfl⟩
    ·have hvd:decide (qbB (s[q+2+k].toNat:Int)<0)=false:=zF hv;go_wp2_with (go_at_call 122;refine (dj _ _ (by omega) (by omega)).mono ?_;rintro e w' ⟨rfl,rfl⟩)
     go_round
     case rel=>exact ⟨k+1,by omega,by go_num,by rw [HS.out,qkW _ _ a0 a1 hv (by omega)],by rw [HO.out,OK.out,zT (by omega)];rfl⟩
     case measure=>simp [intOf];omega
   ·have hdk:decide (q+2+k<q+6)=false:=zF (by omega);obtain rfl:k=4:=by omega
    have hu:ah (s.data.toList.drop q)=qbW (s.data.toList.drop q) 4:=qjp (by rw [HLEN.out];omega) B0.out B1.out OK.out;have HU:=zh hu;clear hu;go_wp2_with fail;go_ret3
    exact ⟨by rw [qhU _ HU.out hbd.1];rfl,rfl⟩
theorem qdS (s:ByteArray) (q:Nat) (w:World) (hs:s.size≤maxLen) (hq:q<s.size) (hb0:byt (s.data.toList.drop q) 0=92) :
  Calls Tryz.prog 116 #[.string s,.int .i64 q] w fun e w'=>
   e = .returned (.tuple #[.int .i32 (qan (s.data.toList.drop q)).1,.int .i64 (qan (s.data.toList.drop q)).2.1,.int .i64 (qan (s.data.toList.drop q)).2.2])∧w=w':=by
 have hs':=hs;have HS:=zh hs;clear hs;unfold maxLen at hs';have B0:=zh hb0;clear hb0;have hlen:(s.data.toList.drop q).length=s.size-q:=by simp
 have HLEN:=zh hlen;clear hlen;by_cases hl:s.size-q<2
 ·have hd:decide ((s.size:Int)-(q:Int)<2)=true:=zT (by omega);have hn:qan (s.data.toList.drop q)=(0,0,20):=by unfold qan;rw [if_pos (by have:=HLEN.out;omega)]
  have HN:=zh hn;clear hn;go_enter Tryz.func116,Tryz.ntmps116;go_wp2_with fail;go_ret3
  exact ⟨by rw [HN.out];rfl,rfl⟩
 ·have hd:decide ((s.size:Int)-(q:Int)<2)=false:=zF (by omega);have hlt:q+1<s.size:=by omega
  have g:byt (s.data.toList.drop q) 1=(s[q+1].toNat:Int):=by rw [bm,aY s (q+1) hlt]
  have b0:=qaj (s.data.toList.drop q) 1;have b1:=qcF (s.data.toList.drop q) 1;rw [g] at b0 b1;have hlet:∀ p:Int,0≤p→bz (s[q+1].toNat:Int)=p→qan (s.data.toList.drop q)=(p,2,0):=by
   intro p h0 hp;rw [(qbo (by have:=HLEN.out;omega) (by rw [g,hp];exact h0)).1,g,hp]
  have hnot:bz (s[q+1].toNat:Int) = -1→qan (s.data.toList.drop q)=qbD (s.data.toList.drop q):=by
   intro hp;unfold qan qbD;rw [if_neg (by have:=HLEN.out;omega),if_neg (by rw [g,hp];omega)]
  have hno:bz (s[q+1].toNat:Int) = -1→(s[q+1].toNat:Int)≠117→qan (s.data.toList.drop q)=(0,0,20):=by
   intro hp h117;rw [hnot hp,qc0 (qaJ fun x=>h117 (by rw [←g];exact x.2.2.1))]
  have LET:=zh hlet;clear hlet;have NOT:=zh hnot;clear hnot;have NO:=zh hno;clear hno;have G:=zh g;clear g;go_enter Tryz.func116,Tryz.ntmps116;go_wp2_with (go_at_call 120;refine (qfD s q _ HS.out hlt B0.out (G.out.trans (eq_of_beq (by assumption)))).mono ?_;rintro e w' ⟨rfl,rfl⟩)
  all_goals go_ret3
  ·have e:(s[q+1].toNat:Int)=34:=eq_of_beq (by assumption);exact ⟨by rw [LET.out (s[q+1].toNat:Int) (by omega) (by rw [e];rfl)];rfl,rfl⟩
  ·have e:(s[q+1].toNat:Int)=92:=eq_of_beq (by assumption);exact ⟨by rw [LET.out (s[q+1].toNat:Int) (by omega) (by rw [e];rfl)];rfl,rfl⟩
  ·have e:(s[q+1].toNat:Int)=47:=eq_of_beq (by assumption);exact ⟨by rw [LET.out (s[q+1].toNat:Int) (by omega) (by rw [e];rfl)];rfl,rfl⟩
  ·have e:(s[q+1].toNat:Int)=98:=eq_of_beq (by assumption);exact ⟨by rw [LET.out 8 (by decide) (by rw [e];rfl)];rfl,rfl⟩
  ·have e:(s[q+1].toNat:Int)=102:=eq_of_beq (by assumption);exact ⟨by rw [LET.out 12 (by decide) (by rw [e];rfl)];rfl,rfl⟩
  ·have e:(s[q+1].toNat:Int)=110:=eq_of_beq (by assumption);exact ⟨by rw [LET.out 10 (by decide) (by rw [e];rfl)];rfl,rfl⟩
  ·have e:(s[q+1].toNat:Int)=114:=eq_of_beq (by assumption);exact ⟨by rw [LET.out 13 (by decide) (by rw [e];rfl)];rfl,rfl⟩
  ·have e:(s[q+1].toNat:Int)=116:=eq_of_beq (by assumption);exact ⟨by rw [LET.out 9 (by decide) (by rw [e];rfl)];rfl,rfl⟩
  ·have e:(s[q+1].toNat:Int)=117:=eq_of_beq (by assumption);exact ⟨by rw [NOT.out (by rw [e];rfl)];rfl,rfl⟩
  ·have c1:(s[q+1].toNat:Int)≠34:=ne_of_beq_false (by assumption);have c2:(s[q+1].toNat:Int)≠92:=ne_of_beq_false (by assumption);have c3:(s[q+1].toNat:Int)≠47:=ne_of_beq_false (by assumption);have c4:(s[q+1].toNat:Int)≠98:=ne_of_beq_false (by assumption);have c5:(s[q+1].toNat:Int)≠102:=ne_of_beq_false (by assumption);have c6:(s[q+1].toNat:Int)≠110:=ne_of_beq_false (by assumption);have c7:(s[q+1].toNat:Int)≠114:=ne_of_beq_false (by assumption);have c8:(s[q+1].toNat:Int)≠116:=ne_of_beq_false (by assumption);have c9:(s[q+1].toNat:Int)≠117:=ne_of_beq_false (by assumption);exact ⟨by rw [NO.out (by unfold bz;rw [if_neg c1,if_neg c2,if_neg c3,if_neg c4,if_neg c5,if_neg c6,if_neg c7,if_neg c8]) c9];rfl,rfl⟩
theorem qj5 (s:ByteArray) (q:Nat) (w:World) (hs:s.size≤maxLen) (hq:q<s.size) :
  Calls Tryz.prog 104 #[.string s,.int .i64 q] w fun e w'=>e = .returned (.tuple #[.int .i32 (ao (s.data.toList.drop q)).1,.int .i64 (ao (s.data.toList.drop q)).2])∧w=w':=by
 have:=qgM s q w hs;rw [qdR s q hq] at this;exact this
theorem qfE (s:ByteArray) (q:Nat) (w:World) (hs:s.size≤maxLen) (hq:q<s.size) :
  Calls Tryz.prog 106 #[.string s,.int .i64 q] w fun e w'=>
   e = .returned (.tuple #[.int .i32 (aO (s.data.toList.drop q)).1,.int .i64 (aO (s.data.toList.drop q)).2.1,.int .i64 (aO (s.data.toList.drop q)).2.2])∧w=w':=by
 have C:=qj5 s q w hs hq;have h0:(s.data.toList.drop q).length≠0:=by simp;omega
 have HS:=zh hs;clear hs;have H0:=zh h0;clear h0;rcases hO:ao (s.data.toList.drop q) with ⟨p,n⟩;rw [hO] at C;by_cases hn:n=0
 ·subst hn;have hr:aO (s.data.toList.drop q)=(0,0,10):=qaG (by rw [hO]);have HR:=zh hr;clear hr;clear hO;go_enter Tryz.func106,Tryz.ntmps106;go_wp2_with (go_at_call 104;refine C.mono ?_;rintro e w' ⟨rfl,rfl⟩)
  go_ret3
  exact ⟨by rw [HR.out];rfl,rfl⟩
 ·have hnb:(n==0)=false:=by simpa using hn
  have hne:(ao (s.data.toList.drop q)).2≠0:=by rw [hO];exact hn
  by_cases h1:byt (s.data.toList.drop q) 0<32
  ·have e:=qab H0.out (by omega);have hp:p=byt (s.data.toList.drop q) 0:=by rw [hO] at e;exact congrArg Prod.fst e
   have hd:decide (p<32)=true:=zT (by omega);have hr:=qar H0.out h1;have HR:=zh hr;clear hr;clear hO hp e hne hn h1;go_enter Tryz.func106,Tryz.ntmps106;go_wp2_with (go_at_call 104;refine C.mono ?_;rintro e w' ⟨rfl,rfl⟩)
   go_ret3
   exact ⟨by rw [HR.out];rfl,rfl⟩
  ·by_cases h2:byt (s.data.toList.drop q) 0=92
   ·have e:=qab H0.out (by omega);obtain rfl:p=92:=by rw [hO,h2] at e;exact congrArg Prod.fst e
    have hr:=qaH H0.out h2;have HR:=zh hr;clear hr;have H2:=zh h2;clear h2;have D:=qdS s q w HS.out hq H2.out;clear hO e hne hn h1;go_enter Tryz.func106,Tryz.ntmps106;go_wp2_with (first | (go_at_call 104;refine C.mono ?_;rintro e w' ⟨rfl,rfl⟩) | (go_at_call 116;refine D.mono ?_;rintro e w' ⟨rfl,rfl⟩))
    go_ret3
    exact ⟨by rw [HR.out];rfl,rfl⟩
   ·have hr:=qby H0.out hne h1 h2;rw [hO] at hr;have hp:32≤p∧p≠92:=by
     by_cases h3:byt (s.data.toList.drop q) 0<128
     ·have e:=qab H0.out h3;rw [hO] at e;have:=congrArg Prod.fst e;simp only at this;omega
     ·have:=qcN (by omega) hne;rw [hO] at this;simp only at this;omega
    have hd1:decide (p<32)=false:=zF (by omega);have hd2:(p != 92)=true:=by rw [bne_iff_ne];exact hp.2
    have HR:=zh hr;clear hr;clear hO hp hne hn h1 h2;go_enter Tryz.func106,Tryz.ntmps106;go_wp2_with (go_at_call 104;refine C.mono ?_;rintro e w' ⟨rfl,rfl⟩)
    go_ret3
    exact ⟨by rw [HR.out];rfl,rfl⟩
def qb2 (r:List UInt8×Int×Int) (w:World) (e:Ending) (w':World):Prop:=
 e = .returned (.tuple #[.string (ae r.1),.int .i64 r.2.1,.int .i64 r.2.2])∧Below w.heap.size w w'
theorem qcO {a a':ByteArray} {b b' c c':Int} (h1:a=a') (h2:b=b') (h3:c=c'):Ending.returned (.tuple #[.string a,.int .i64 b,.int .i64 c]) = .returned (.tuple #[.string a',.int .i64 b',.int .i64 c']):=by rw [h1,h2,h3]
theorem cL (s:ByteArray) (k:Nat) (z u n e:Int) (w:World) (hz:z=(k:Int)) (hs:s.size≤maxLen) (hk:k<s.size) (h:Hid (aO (s.data.toList.drop k)=(u,n,e))) :
  Calls Tryz.prog 106 #[.string s,.int .i64 z] w fun r w'=>r = .returned (.tuple #[.int .i32 u,.int .i64 n,.int .i64 e])∧w=w':=by
 subst hz;have:=qfE s k w hs hk;rw [h.out] at this;exact this
def ql5 (L:List UInt8) (k:Nat) (ps:List Int) (u:Int):Prop:=
 (u=0∧qbt L k ps)∨(ci u=true∧∃ j,k=j+6∧k≤L.length∧qbt L j ps∧aO (L.drop j)=(u,6,0))
theorem qkv (s:ByteArray) (q:Nat) (w:World) (hs:s.size≤maxLen) (hq:q<s.size) (hb:byt s.data.toList q=34) (hr:(aC (s.data.toList.drop (q+1))).2.1+16≤140737488355328) :
  Calls Tryz.prog 95 #[.string s,.int .i64 q] w (qb2 (bj s.data.toList q) w):=by
 obtain ⟨i0,hi,hz0,hz1,hz2⟩:=info_parts bX;have hs':=hs;have HS:=zh hs;clear hs;unfold maxLen at hs';have B:=zh hb;have hq34:((s[q].toNat:Int) != 34)=false:=by
  rw [aY s q hq] at hb;rw [hb];rfl
 clear hb;obtain ⟨L,hL⟩:∃ L,L=s.data.toList.drop (q+1):=⟨_,rfl⟩
 have hdr:∀ k,s.data.toList.drop (q+1+k)=L.drop k:=fun k=>by rw [hL,List.drop_drop]
 have hlen:L.length=s.size-(q+1):=by rw [hL];simp
 rw [←hL] at hr;have hbad:∀ (k:Nat) (ps:List Int) (e:Int),aC L=(ps,k,e)→e≠0→bj s.data.toList q=([],(q:Int)+1+k,e):=fun k ps e h he=>qgU (by rw [af];exact hq) B.out (by rw [←hL];exact h) he;have hok:∀ (k:Nat) (ps:List Int),aC L=(ps,k,0)→bj s.data.toList q=(bE ps,(q:Int)+1+k+1,0):=fun k ps h=>qjd (by rw [af];exact hq) B.out (by rw [←hL];exact h);have HL:=zh hL;clear hL;have HDR:=zh hdr;clear hdr;have HLEN:=zh hlen;clear hlen;have BAD:=zh hbad;clear hbad;have OK:=zh hok;clear hok;have HR:=zh hr;clear hr;have hq0:decide ((q:Int)<0)=false:=zF (by omega);have hq1:decide (s.size≤q)=false:=zF (by omega);go_enter Tryz.func95,Tryz.ntmps95;go_wp2_with fail;go_loopw [7,8,9,10,11,12] (fun v u i _ _ _ wr=>∃ (k:Nat) (ps:List Int) (u0:Int),i = .int .i64 (q+1+k:Nat)∧u = .int .i32 u0∧ql5 L k ps u0∧wr.ownsRow w.heap.size 5 1 v (Lib.byteCells (bE ps)).length (Lib.byteCells (bE ps))∧Below w.heap.size w wr) (fun _ _ i _ _ _ _=>s.size-(intOf i).toNat)
 case atStart=>exact ⟨0,[],0,by go_num,rfl,.inl ⟨rfl,qbt.start _⟩,World.ownsRow_nil _ _ _ _,Below.refl _ _⟩
 case round=>
  obtain ⟨k,ps,u0,rfl,rfl,hat,hown,hbel⟩:=hrel;have hkl:k≤L.length:=by
   rcases hat with ⟨_,h⟩ | ⟨_,j,_,h,_⟩
   ·exact h.1
   ·exact h
  have hk:q+1+k≤s.size:=by have:=HLEN.out;omega
  have hbB:=hbel.size;by_cases hgo:k<L.length∧byt (L.drop k) 0≠34
  ·obtain ⟨hlt,hb34⟩:=hgo;have hlt':q+1+k<s.size:=by have:=HLEN.out;omega
   have hld:decide (q+1+k<s.size)=true:=zT hlt';have h0:(L.drop k).length≠0:=by simp;omega
   have hg:byt (L.drop k) 0=(s[q+1+k].toNat:Int):=by rw [←HDR.out,bm,Nat.add_zero,aY s _ hlt']
   have ht:((s[q+1+k].toNat:Int) != 34)=true:=by rw [bne_iff_ne,←hg];exact hb34
   have H0:=zh h0;clear h0;have HB:=zh hb34;clear hb34;have HG:=zh hg;clear hg;rcases hU:aO (L.drop k) with ⟨p,n,e⟩;have hbd:=qgl (L.drop k);rw [hU] at hbd;obtain ⟨p0,p1,n0,n1,n2,hee⟩:=hbd;simp only at p0 p1 n0 n1 n2 hee;rw [List.length_drop] at n2;have HU:=zh (show aO (s.data.toList.drop (q+1+k))=(p,n,e) by rw [HDR.out];exact hU);have HV:=zh hU;clear hU;rcases hat with ⟨rfl,hrd⟩ | ⟨hup,j,rfl,_,hrd,huj⟩
   ·have HRD:=zh hrd;clear hrd;by_cases he:e=0
    ·subst he;clear hee;by_cases hl:bI p=true
     ·go_wp2_with (first | (go_at_call 106;refine (cL s _ _ _ _ _ _ (by omega) HS.out hlt' HU).mono ?_;rintro r w' ⟨rfl,rfl⟩) | (go_at_call 107;refine (bF _ _).mono ?_;rintro r w' ⟨rfl,rfl⟩))
      go_ret3
      refine ⟨?_,hbel⟩;rw [BAD.out k ps 20 (HRD.out.err (qi5 H0.out (by rw [HV.out];exact hl))) (by decide)];exact qcO rfl rfl rfl
     ·have hl':bI p=false:=by simpa using hl
      clear hl;by_cases hu:ci p=true
      ·obtain rfl:n=6:=qg7 H0.out HV.out hu;have hi1:q+1+k+6≤s.size:=by have:=HLEN.out;omega
       go_wp2_with (first | (go_at_call 106;refine (cL s _ _ _ _ _ _ (by omega) HS.out hlt' HU).mono ?_;rintro r w' ⟨rfl,rfl⟩) | (go_at_call 107;refine (bF _ _).mono ?_;rintro r w' ⟨rfl,rfl⟩) | (go_at_call 110;refine (qay _ _).mono ?_;rintro r w' ⟨rfl,rfl⟩))
       go_roundw
       case rel=>exact ⟨k+6,ps,p,by go_num,rfl,.inr ⟨hu,k,rfl,by omega,HRD.out,HV.out⟩,hown,hbel⟩
       case measure=>simp [intOf];omega
      ·have hu':ci p=false:=by simpa using hu
       clear hu;have hst:aq (L.drop k)=(p,n,0):=by
        have:=qdJ H0.out HB.out (by rw [HV.out]) (by rw [HV.out];exact hu') (by rw [HV.out];exact hl');rw [this,HV.out]
       have hpos:=qjG H0.out HB.out (by rw [HV.out]);rw [HV.out] at hpos;simp only at hpos;obtain ⟨m,rfl⟩:=Int.eq_ofNat_of_zero_le n0;have hm:m≠0:=by omega
       have HST:=zh hst;clear hst;have hkm:k+m≤L.length:=by omega
       have hi1:q+1+k+m≤s.size:=by have:=HLEN.out;omega
       have hle:=HRD.out.le;have hsz:(Lib.byteCells (bE ps)).length+4≤140737488355328:=by rw [Lib.byteCells_length];have:=HRD.out.2.1;have:=HR.out;omega
       have hle4:=qcq p;by_cases h92:byt (L.drop k) 0=92
       ·have h92':((s[q+1+k].toNat:Int) != 92)=false:=by rw [←HG.out,h92];rfl
        clear h92;go_wp2_with (first | (go_at_call 106;refine (cL s _ _ _ _ _ _ (by omega) HS.out hlt' HU).mono ?_;rintro r w' ⟨rfl,rfl⟩) | (go_at_call 107;refine (bF _ _).mono ?_;rintro r w' ⟨rfl,rfl⟩) | (go_at_call 110;refine (qay _ _).mono ?_;rintro r w' ⟨rfl,rfl⟩))
        refine (qcj p wr).mono ?_;rintro r w1 ⟨rfl,hb1⟩;have hown1:=aQ hown hb1;go_wp2_with (at_builtin;refine Lib.wpList_append_own_string _ rfl _ _ 82 9 rfl w.heap.size 5 i0 Tryz.underlying82 Tryz.underlying9 hi hz0 hz1 hz2 _ _ _ rfl hown1 (ae (enc p)) rfl ?_ ?_ ?_ ?_;(rw [aF];unfold maxLen;omega);(rw [aF];omega);(have:=hb1.size;omega);intro v2 w2 hown2 hg2 _)
        go_roundw
        case rel=>exact ⟨k+m,ps++[p],0,by go_num,rfl,.inl ⟨rfl,HRD.out.step HST.out hm⟩,by rw [cM,Lib.byteCells_append,List.length_append];simpa [bE,aF,qb6,Lib.byteCells_length] using hown2,(hbel.trans (hb1.mono hbB)).grown hg2 (by have:=hb1.size;omega) (fun g hg=>(hown.lt g hg).1)⟩
        case measure=>simp [intOf];omega
       ·have h92':((s[q+1+k].toNat:Int) != 92)=true:=by rw [bne_iff_ne,←HG.out];exact h92
        have ho1:=qjs H0.out h92 HV.out;have hcell:=qbQ s (q+1+k) m p (by rw [HDR.out];exact ho1) hm;have hxz:(s.extract (q+1+k) (q+1+k+m)).size=(enc p).length:=by
         rw [←Lib.strCells_length,hcell,Lib.byteCells_length]
        have HC:=zh hcell;clear hcell;have HX:=zh hxz;clear hxz;clear h92 ho1;have f1:(0:Int)≤(q:Int)+1+k:=by omega
        have f2:(q:Int)+1+k≤(q:Int)+1+k+m:=by omega
        have f3:(q:Int)+1+k+m≤(s.size:Int):=by omega
        have f4:((q:Int)+1+k).toNat=q+1+k:=by omega
        have f5:((q:Int)+1+k+m).toNat=q+1+k+m:=by omega
        go_wp2_with (first | (go_at_call 106;refine (cL s _ _ _ _ _ _ (by omega) HS.out hlt' HU).mono ?_;rintro r w' ⟨rfl,rfl⟩) | (go_at_call 107;refine (bF _ _).mono ?_;rintro r w' ⟨rfl,rfl⟩) | (go_at_call 110;refine (qay _ _).mono ?_;rintro r w' ⟨rfl,rfl⟩) | (at_builtin;refine Lib.wpList_append_own_string _ rfl _ _ 82 9 rfl w.heap.size 5 i0 Tryz.underlying82 Tryz.underlying9 hi hz0 hz1 hz2 _ _ _ rfl hown (s.extract (q+1+k) (q+1+k+m)) rfl ?_ ?_ ?_ ?_;(rw [HX.out];unfold maxLen;omega);(rw [HX.out];omega);omega;intro v2 w2 hown2 hg2 _))
        go_roundw
        case rel=>exact ⟨k+m,ps++[p],0,by go_num,rfl,.inl ⟨rfl,HRD.out.step HST.out hm⟩,by rw [cM,Lib.byteCells_append,List.length_append];rw [HC.out,HX.out] at hown2;simpa [bE,Lib.byteCells_length] using hown2,hbel.grown hg2 hbB (fun g hg=>(hown.lt g hg).1)⟩
        case measure=>simp [intOf];omega
    ·have hne:(e != 0)=true:=by rw [bne_iff_ne];exact he
     go_wp2_with (first | (go_at_call 106;refine (cL s _ _ _ _ _ _ (by omega) HS.out hlt' HU).mono ?_;rintro r w' ⟨rfl,rfl⟩))
     go_ret3
     refine ⟨?_,hbel⟩;have hst:=qiq H0.out HB.out (by rw [HV.out];exact he);rw [HV.out] at hst;rw [BAD.out k ps e (HRD.out.err hst) he];exact qcO rfl rfl rfl
   ·have HRD:=zh hrd;clear hrd;have HUJ:=zh huj;clear huj;have hup1:=qaK hup;have hu0:(u0 != 0)=true:=by rw [bne_iff_ne];omega
    by_cases he:e=0
    ·subst he;clear hee;by_cases hl:bI p=true
     ·obtain ⟨hpu,rfl⟩:=qfX H0.out HV.out hl;have hst:=qmq hup HUJ.out (by rw [hpu];exact hl);rw [hpu] at hst;have hb0:=qfm hup hl;have HST:=zh hst;clear hst hpu;have hi1:q+1+(j+6)+6≤s.size:=by have:=HLEN.out;omega
      have hle:=HRD.out.le;have hsz:(Lib.byteCells (bE ps)).length+4≤140737488355328:=by rw [Lib.byteCells_length];have:=HRD.out.2.1;have:=HR.out;omega
      have hle4:=qcq (cK u0 p);go_wp2_with (first | (go_at_call 106;refine (cL s _ _ _ _ _ _ (by omega) HS.out hlt' HU).mono ?_;rintro r w' ⟨rfl,rfl⟩) | (go_at_call 107;refine (bF _ _).mono ?_;rintro r w' ⟨rfl,rfl⟩) | (go_at_call 109;refine (qjF _ _ _ hup hl).mono ?_;rintro r w' ⟨rfl,rfl⟩))
      refine (qcj _ _).mono ?_;rintro r w1 ⟨rfl,hb1⟩;have hown1:=aQ hown hb1;go_wp2_with (at_builtin;refine Lib.wpList_append_own_string _ rfl _ _ 82 9 rfl w.heap.size 5 i0 Tryz.underlying82 Tryz.underlying9 hi hz0 hz1 hz2 _ _ _ rfl hown1 (ae (enc (cK u0 p))) rfl ?_ ?_ ?_ ?_;(rw [aF];unfold maxLen;omega);(rw [aF];omega);(have:=hb1.size;omega);intro v2 w2 hown2 hg2 _)
      go_roundw
      case rel=>exact ⟨j+12,ps++[cK u0 p],0,by go_num,rfl,.inl ⟨rfl,HRD.out.step HST.out (by decide)⟩,by rw [cM,Lib.byteCells_append,List.length_append];simpa [bE,aF,qb6,Lib.byteCells_length] using hown2,(hbel.trans (hb1.mono hbB)).grown hg2 (by have:=hb1.size;omega) (fun g hg=>(hown.lt g hg).1)⟩
      case measure=>simp [intOf];omega
     ·have hl':bI p=false:=by simpa using hl
      clear hl;go_wp2_with (first | (go_at_call 106;refine (cL s _ _ _ _ _ _ (by omega) HS.out hlt' HU).mono ?_;rintro r w' ⟨rfl,rfl⟩) | (go_at_call 107;refine (bF _ _).mono ?_;rintro r w' ⟨rfl,rfl⟩))
      go_ret3
      refine ⟨?_,hbel⟩;rw [BAD.out j ps 20 (HRD.out.err (qcf hup HUJ.out (qdy H0.out HV.out (.inr hl')))) (by decide)];exact qcO rfl (by simp only;omega) rfl
    ·have hne:(e != 0)=true:=by rw [bne_iff_ne];exact he
     go_wp2_with (first | (go_at_call 106;refine (cL s _ _ _ _ _ _ (by omega) HS.out hlt' HU).mono ?_;rintro r w' ⟨rfl,rfl⟩))
     go_ret3
     refine ⟨?_,hbel⟩;rw [BAD.out j ps 20 (HRD.out.err (qcf hup HUJ.out (qdy H0.out HV.out (.inl he)))) (by decide)];exact qcO rfl (by simp only;omega) rfl
  ·have hcv:=(Rd.of_own hown).conv (P:=Tryz.prog) Tryz.underlying82 Tryz.underlying5 Tryz.underlying9
   by_cases hlt:k<L.length
   ·have hb34:byt (L.drop k) 0=34:=by
     by_cases h:byt (L.drop k) 0=34
     ·exact h
     ·exact absurd ⟨hlt,h⟩ hgo
    have hlt':q+1+k<s.size:=by have:=HLEN.out;omega
    have hld:decide (q+1+k<s.size)=true:=zT hlt';have h0:(L.drop k).length≠0:=by simp;omega
    have hg:byt (L.drop k) 0=(s[q+1+k].toNat:Int):=by rw [←HDR.out,bm,Nat.add_zero,aY s _ hlt']
    have ht:((s[q+1+k].toNat:Int) != 34)=false:=by rw [←hg,hb34];rfl
    have hend:((q:Int)+1+k==(s.size:Int))=false:=by rw [beq_eq_false_iff_ne];omega
    have hno:ah (L.drop k) = -1:=qgW (by omega);have hst:=qfq h0 hb34;have HST:=zh hst;clear hst;have HNO:=zh hno;clear hno;clear hg hb34 h0 hgo;rcases hat with ⟨rfl,hrd⟩ | ⟨hup,j,rfl,_,hrd,huj⟩
    ·have HRD:=zh hrd;clear hrd;go_wp2_with fail;go_ret3
     refine ⟨?_,hbel⟩;rw [OK.out k ps (HRD.out.err HST.out)];exact qcO rfl rfl rfl
    ·have HRD:=zh hrd;clear hrd;have HUJ:=zh huj;clear huj;have hup1:=qaK hup;have hu0:(u0 != 0)=true:=by rw [bne_iff_ne];omega
     go_wp2_with fail;go_ret3
     refine ⟨?_,hbel⟩;rw [BAD.out j ps 20 (HRD.out.err (qcf hup HUJ.out (by rw [HNO.out];rfl))) (by decide)];exact qcO rfl (by simp only;omega) rfl
   ·obtain hkL:k=L.length:=by omega
    have hks:q+1+k=s.size:=by have:=HLEN.out;omega
    have hld:decide (q+1+k<s.size)=false:=zF (by omega);have hend:((q:Int)+1+k==(s.size:Int))=true:=by rw [beq_iff_eq];omega
    have h0:(L.drop k).length=0:=by simp;omega
    have hst:=qhK h0;have hno:=qho h0;have HST:=zh hst;clear hst;have HNO:=zh hno;clear hno;have HKS:=zh hks;clear hks;clear h0 hkL hgo;rcases hat with ⟨rfl,hrd⟩ | ⟨hup,j,rfl,_,hrd,huj⟩
    ·have HRD:=zh hrd;clear hrd;go_wp2_with fail;go_ret3
     refine ⟨?_,hbel⟩;rw [BAD.out k ps 20 (HRD.out.err HST.out) (by decide)];exact qcO rfl rfl rfl
    ·have HRD:=zh hrd;clear hrd;have HUJ:=zh huj;clear huj;have hup1:=qaK hup;have hu0:(u0 != 0)=true:=by rw [bne_iff_ne];omega
     go_wp2_with fail;go_ret3
     refine ⟨?_,hbel⟩;rw [BAD.out j ps 20 (HRD.out.err (qcf hup HUJ.out (by rw [HNO.out];rfl))) (by decide)];exact qcO rfl (by simp only;omega) rfl
theorem qcv (s:ByteArray) (a:Int) (w:World) (hs:s.size≤maxLen) (hr:∀ q:Nat,a=q→q<s.size→byt s.data.toList q=34→(aC (s.data.toList.drop (q+1))).2.1+16≤140737488355328) :
  Calls Tryz.prog 95 #[.string s,.int .i64 a] w (qb2 (bj s.data.toList a) w):=by
 by_cases h0:a<0
 ·have hd:decide (a<0)=true:=zT h0;go_enter Tryz.func95,Tryz.ntmps95;go_wp2_with fail;go_ret3
  refine ⟨?_,Below.refl _ _⟩;rw [qaR (.inl h0)];exact qcO rfl rfl rfl
 ·obtain ⟨q,rfl⟩:=Int.eq_ofNat_of_zero_le (Int.not_lt.mp h0);by_cases h1:q<s.size
  ·by_cases h2:byt s.data.toList q=34
   ·exact qkv s q w hs h1 h2 (hr q rfl h1 h2)
   ·have hq34:((s[q].toNat:Int) != 34)=true:=by rw [bne_iff_ne,←aY s q h1];exact h2
    have hq0:decide ((q:Int)<0)=false:=zF (by omega);have hq1:decide (s.size≤q)=false:=zF (by omega);unfold maxLen at hs;clear hr;go_enter Tryz.func95,Tryz.ntmps95;go_wp2_with fail;go_ret3
    refine ⟨?_,Below.refl _ _⟩;rw [qaR (.inr (.inr (by rw [Int.toNat_natCast];exact h2)))];exact qcO rfl rfl rfl
  ·have hq0:decide ((q:Int)<0)=false:=zF (by omega);have hq1:decide (s.size≤q)=true:=zT (by omega);unfold maxLen at hs;clear hr;go_enter Tryz.func95,Tryz.ntmps95;go_wp2_with fail;go_ret3
   refine ⟨?_,Below.refl _ _⟩;rw [qaR (.inr (.inl (by rw [af];omega)))];exact qcO rfl rfl rfl
