/- Merged: ReA ChA ChB. -/
import Derived.Test.YtofelafamfckiaaGreatDoorTt7
import Derived.IntWalk
import Derived.Deep.RegionHeld3
import Derived.Laws.Shifts
set_option maxRecDepth 100000
set_option maxHeartbeats 8000000
namespace Go.Proofs.YtofelafamfckiaaGreatDoor
namespace Re
open Go.RowKit Utf Sc
def qeV (q:Prop) (w:World) (e:Ending) (w':World):Prop:=(∃ b,e = .returned (.bool b)∧(b=true↔q))∧Below w.heap.size w w'
theorem qeF (w:World) (o:Obj):(w.alloc o).heap.size=w.heap.size+1:=by simp
end Re
namespace Ch
open Go.RowKit Utf
theorem dn (c:Int) (w:World) (h0:0≤c) (h1:c≤255):Calls Tryz.prog 122 #[.int .u8 c] w fun e w'=>e = .returned (.int .i32 (qbC c))∧w=w':=by
 go_enter Tryz.func122,Tryz.ntmps122;go_wp2
 all_goals
  go_ret;exact ⟨qcw (by unfold qbC;(repeat' split) <;> omega),rfl⟩
theorem qaB (n:Int) (w:World):Calls Tryz.prog 110 #[.int .i32 n] w fun e w'=>e = .returned (.bool (cy n))∧w=w':=by
 go_enter Tryz.func110,Tryz.ntmps110;go_wp2
 all_goals
  go_ret;exact ⟨bS (by rw [Bool.eq_iff_iff];simp [cy];omega),rfl⟩
theorem bO (n:Int) (w:World):Calls Tryz.prog 107 #[.int .i32 n] w fun e w'=>e = .returned (.bool (bR n))∧w=w':=by
 go_enter Tryz.func107,Tryz.ntmps107;go_wp2
 all_goals
  go_ret;exact ⟨bS (by rw [Bool.eq_iff_iff];simp [bR];omega),rfl⟩
theorem qiI (u b:Int) (w:World) (hu:cy u=true) (hb:bR b=true):Calls Tryz.prog 109 #[.int .i32 u,.int .i32 b] w fun e w'=>e = .returned (.int .i32 (dd u b))∧w=w':=by
 have u1:=qa5 hu;have b1:=qaR hb;clear hu hb;go_enter Tryz.func109,Tryz.ntmps109;go_wp2;go_ret;exact ⟨qcw (by unfold dd;omega),rfl⟩
theorem qkT (x y:Int) (h0:0≤x) (h1:x≤4095) (h2:0≤y) (h3:y<16):bits .or .i32 (x*16) y=x*16+y:=
 bits_join .i32 31 (by decide) wraps_i32 4 (x*16) y (by omega) (by omega) (by omega) h2 h3 (by omega)
def qbv (l:List UInt8):Int×Int×Int:=if 0≤ao l then (ao l,6,0) else (0,0,20)
theorem qcK {l:List UInt8} (h:ao l = -1):qbv l=(0,0,20):=by rw [qbv,if_neg (by omega)]
theorem qhT {l:List UInt8} (n:Int) (h:ao l=n) (h0:0≤n):qbv l=(n,6,0):=by rw [qbv,if_pos (by omega),h]
theorem qgk (s:ByteArray) (q:Nat) (w:World) (hs:s.size≤maxLen) (hq:q+1<s.size) (hb0:byt (s.data.toList.drop q) 0=92) (hb1:byt (s.data.toList.drop q) 1=117) :
  Calls Tryz.prog 120 #[.string s,.int .i64 q] w fun e w'=>
   e = .returned (.tuple #[.int .i32 (qbv (s.data.toList.drop q)).1,.int .i64 (qbv (s.data.toList.drop q)).2.1,.int .i64 (qbv (s.data.toList.drop q)).2.2])∧w=w':=by
 unfold maxLen at hs;have B0:=zh hb0;clear hb0;have B1:=zh hb1;clear hb1;have hlen:(s.data.toList.drop q).length=s.size-q:=by simp
 have HLEN:=zh hlen;clear hlen;by_cases hl:s.size-q<6
 ·have hd:decide ((s.size:Int)-(q:Int)<6)=true:=zT (by omega);have hn:ao (s.data.toList.drop q) = -1:=qau fun x=>by have:=HLEN.out;omega
  have HN:=zh hn;clear hn;go_enter Tryz.func120,Tryz.ntmps120;go_wp2_with fail;go_ret3
  exact ⟨by rw [qcK HN.out];rfl,rfl⟩
 ·have hd:decide ((s.size:Int)-(q:Int)<6)=false:=zF (by omega);go_enter Tryz.func120,Tryz.ntmps120;go_wp2_with fail;go_loop [7,8,9] (fun n i _=>∃ k:Nat,k≤4∧i = .int .i64 (q+2+k:Nat)∧n = .int .i32 (qci (s.data.toList.drop q) k)∧cO (s.data.toList.drop q) k=true) (fun _ i _=>q+6-(intOf i).toNat)
  case atStart=>exact ⟨0,by omega,by go_num,rfl,rfl⟩
  case round=>
   obtain ⟨k,hk,rfl,rfl,hok⟩:=hrel;have hbd:=qgj (s.data.toList.drop q) k hok;have OK:=zh hok;clear hok;by_cases hlt:k<4
   ·have hdk:decide (q+2+k<q+6)=true:=zT (by omega);have a0:=hbd.1;have a1:qci (s.data.toList.drop q) k≤4095:=by
     have:=hbd.2;rcases (show k=0∨k=1∨k=2∨k=3 by omega) with rfl | rfl | rfl | rfl <;> omega
    clear hbd;have hlt2:q+2+k<s.size:=by omega
    have g:(s[q+2+k].toNat:Int)=byt (s.data.toList.drop q) (k+2):=by rw [bv,show q+(k+2)=q+2+k by omega,bf s (q+2+k) hlt2]
    have g0:=qaj (s.data.toList.drop q) (k+2);have g1:=qcF (s.data.toList.drop q) (k+2);have v0:=qk3 (byt (s.data.toList.drop q) (k+2));have v1:=qg1 (byt (s.data.toList.drop q) (k+2));have hstep:qci (s.data.toList.drop q) (k+1)=qci (s.data.toList.drop q) k*16+qbC (byt (s.data.toList.drop q) (k+2)):=rfl;have hokst:cO (s.data.toList.drop q) (k+1)=(cO (s.data.toList.drop q) k&&decide (0≤qbC (byt (s.data.toList.drop q) (k+2)))):=rfl;rw [←g] at hstep hokst g0 g1 v0 v1;clear g;have HS:=zh hstep;clear hstep;have HO:=zh hokst;clear hokst;have hi1:q+2+k<9223372036854775807:=by omega
    by_cases hv:qbC (s[q+2+k].toNat:Int)<0
    ·have hvd:decide (qbC (s[q+2+k].toNat:Int)<0)=true:=zT hv;go_wp2_with (go_at_call 122;refine (dn _ _ (by omega) (by omega)).mono ?_;rintro e w' ⟨rfl,rfl⟩)
     go_ret3
     have hno:ao (s.data.toList.drop q) = -1:=qau fun x=>by
      have:=qgf (s.data.toList.drop q) (k+1) (by rw [HO.out,zF (by omega)];simp) 4 (by omega);rw [this] at x;simp at x
     exact ⟨by rw [qcK hno];rfl,rfl⟩
    ·have hvd:decide (qbC (s[q+2+k].toNat:Int)<0)=false:=zF hv;go_wp2_with (go_at_call 122;refine (dn _ _ (by omega) (by omega)).mono ?_;rintro e w' ⟨rfl,rfl⟩)
     go_round
     case rel=>exact ⟨k+1,by omega,by go_num,by rw [HS.out,qkT _ _ a0 a1 hv (by omega)],by rw [HO.out,OK.out,zT (by omega)];rfl⟩
     case measure=>simp [intOf];omega
   ·have hdk:decide (q+2+k<q+6)=false:=zF (by omega);obtain rfl:k=4:=by omega
    have hu:ao (s.data.toList.drop q)=qci (s.data.toList.drop q) 4:=qje (by rw [HLEN.out];omega) B0.out B1.out OK.out;have HU:=zh hu;clear hu;go_wp2_with fail;go_ret3
    exact ⟨by rw [qhT _ HU.out hbd.1];rfl,rfl⟩
theorem qez (s:ByteArray) (q:Nat) (w:World) (hs:s.size≤maxLen) (hq:q<s.size) (hb0:byt (s.data.toList.drop q) 0=92) :
  Calls Tryz.prog 116 #[.string s,.int .i64 q] w fun e w'=>
   e = .returned (.tuple #[.int .i32 (qaq (s.data.toList.drop q)).1,.int .i64 (qaq (s.data.toList.drop q)).2.1,.int .i64 (qaq (s.data.toList.drop q)).2.2])∧w=w':=by
 have hs':=hs;have HS:=zh hs;clear hs;unfold maxLen at hs';have B0:=zh hb0;clear hb0;have hlen:(s.data.toList.drop q).length=s.size-q:=by simp
 have HLEN:=zh hlen;clear hlen;by_cases hl:s.size-q<2
 ·have hd:decide ((s.size:Int)-(q:Int)<2)=true:=zT (by omega);have hn:qaq (s.data.toList.drop q)=(0,0,20):=by unfold qaq;rw [if_pos (by have:=HLEN.out;omega)]
  have HN:=zh hn;clear hn;go_enter Tryz.func116,Tryz.ntmps116;go_wp2_with fail;go_ret3
  exact ⟨by rw [HN.out];rfl,rfl⟩
 ·have hd:decide ((s.size:Int)-(q:Int)<2)=false:=zF (by omega);have hlt:q+1<s.size:=by omega
  have g:byt (s.data.toList.drop q) 1=(s[q+1].toNat:Int):=by rw [bv,bf s (q+1) hlt]
  have b0:=qaj (s.data.toList.drop q) 1;have b1:=qcF (s.data.toList.drop q) 1;rw [g] at b0 b1;have hlet:∀ p:Int,0≤p→bG (s[q+1].toNat:Int)=p→qaq (s.data.toList.drop q)=(p,2,0):=by
   intro p h0 hp;rw [(qbx (by have:=HLEN.out;omega) (by rw [g,hp];exact h0)).1,g,hp]
  have hnot:bG (s[q+1].toNat:Int) = -1→qaq (s.data.toList.drop q)=qbv (s.data.toList.drop q):=by
   intro hp;unfold qaq qbv;rw [if_neg (by have:=HLEN.out;omega),if_neg (by rw [g,hp];omega)]
  have hno:bG (s[q+1].toNat:Int) = -1→(s[q+1].toNat:Int)≠117→qaq (s.data.toList.drop q)=(0,0,20):=by
   intro hp h117;rw [hnot hp,qcK (qau fun x=>h117 (by rw [←g];exact x.2.2.1))]
  have LET:=zh hlet;clear hlet;have NOT:=zh hnot;clear hnot;have NO:=zh hno;clear hno;have G:=zh g;clear g;go_enter Tryz.func116,Tryz.ntmps116;go_wp2_with (go_at_call 120;refine (qgk s q _ HS.out hlt B0.out (G.out.trans (eq_of_beq (by assumption)))).mono ?_;rintro e w' ⟨rfl,rfl⟩)
  all_goals go_ret3
  ·have e:(s[q+1].toNat:Int)=34:=eq_of_beq (by assumption);exact ⟨by rw [LET.out (s[q+1].toNat:Int) (by omega) (by rw [e];rfl)];rfl,rfl⟩
  ·have e:(s[q+1].toNat:Int)=92:=eq_of_beq (by assumption);exact ⟨by rw [LET.out (s[q+1].toNat:Int) (by omega) (by rw [e];rfl)];rfl,rfl⟩
  ·have e:(s[q+1].toNat:Int)=47:=eq_of_beq (by assumption);exact ⟨by rw [LET.out (s[q+1].toNat:Int) (by omega) (by rw [e];rfl)];rfl,rfl⟩
  ·have e:(s[q+1].toNat:Int)=98:=eq_of_beq (by assumption);exact ⟨by rw [LET.out 8 (by decide) (by rw [e];rfl)];rfl,rfl⟩
  ·have e:(s[q+1].toNat:Int)=102:=eq_of_beq (by assumption);exact ⟨by rw [LET.out 12 (by decide) (by rw [e];rfl)];rfl,rfl⟩
  ·have e:(s[q+1].toNat:Int)=110:=eq_of_beq (by assumption);exact ⟨by rw [LET.out 10 (by decide) (by rw [e];rfl)];rfl,rfl⟩
  ·have e:(s[q+1].toNat:Int)=114:=eq_of_beq (by assumption);exact ⟨by rw [LET.out 13 (by decide) (by rw [e];rfl)];rfl,rfl⟩
  ·have e:(s[q+1].toNat:Int)=116:=eq_of_beq (by assumption);exact ⟨by rw [LET.out 9 (by decide) (by rw [e];rfl)];rfl,rfl⟩
  ·have e:(s[q+1].toNat:Int)=117:=eq_of_beq (by assumption);exact ⟨by rw [NOT.out (by rw [e];rfl)];rfl,rfl⟩
  ·have c1:(s[q+1].toNat:Int)≠34:=ne_of_beq_false (by assumption);have c2:(s[q+1].toNat:Int)≠92:=ne_of_beq_false (by assumption);have c3:(s[q+1].toNat:Int)≠47:=ne_of_beq_false (by assumption);have c4:(s[q+1].toNat:Int)≠98:=ne_of_beq_false (by assumption);have c5:(s[q+1].toNat:Int)≠102:=ne_of_beq_false (by assumption);have c6:(s[q+1].toNat:Int)≠110:=ne_of_beq_false (by assumption);have c7:(s[q+1].toNat:Int)≠114:=ne_of_beq_false (by assumption);have c8:(s[q+1].toNat:Int)≠116:=ne_of_beq_false (by assumption);have c9:(s[q+1].toNat:Int)≠117:=ne_of_beq_false (by assumption);exact ⟨by rw [NO.out (by unfold bG;rw [if_neg c1,if_neg c2,if_neg c3,if_neg c4,if_neg c5,if_neg c6,if_neg c7,if_neg c8]) c9];rfl,rfl⟩
theorem qk6 (s:ByteArray) (q:Nat) (w:World) (hs:s.size≤maxLen) (hq:q<s.size) :
  Calls Tryz.prog 104 #[.string s,.int .i64 q] w fun e w'=>e = .returned (.tuple #[.int .i32 (au (s.data.toList.drop q)).1,.int .i64 (au (s.data.toList.drop q)).2])∧w=w':=by
 have:=qg9 s q w hs;rw [qeA s q hq] at this;exact this
theorem qge (s:ByteArray) (q:Nat) (w:World) (hs:s.size≤maxLen) (hq:q<s.size) :
  Calls Tryz.prog 106 #[.string s,.int .i64 q] w fun e w'=>
   e = .returned (.tuple #[.int .i32 (aQ (s.data.toList.drop q)).1,.int .i64 (aQ (s.data.toList.drop q)).2.1,.int .i64 (aQ (s.data.toList.drop q)).2.2])∧w=w':=by
 have C:=qk6 s q w hs hq;have h0:(s.data.toList.drop q).length≠0:=by simp;omega
 have HS:=zh hs;clear hs;have H0:=zh h0;clear h0;rcases hO:au (s.data.toList.drop q) with ⟨p,n⟩;rw [hO] at C;by_cases hn:n=0
 ·subst hn;have hr:aQ (s.data.toList.drop q)=(0,0,10):=qay (by rw [hO]);have HR:=zh hr;clear hr;clear hO;go_enter Tryz.func106,Tryz.ntmps106;go_wp2_with (go_at_call 104;refine C.mono ?_;rintro e w' ⟨rfl,rfl⟩)
  go_ret3
  exact ⟨by rw [HR.out];rfl,rfl⟩
 ·have hnb:(n==0)=false:=by simpa using hn
  have hne:(au (s.data.toList.drop q)).2≠0:=by rw [hO];exact hn
  by_cases h1:byt (s.data.toList.drop q) 0<32
  ·have e:=qal H0.out (by omega);have hp:p=byt (s.data.toList.drop q) 0:=by rw [hO] at e;exact congrArg Prod.fst e
   have hd:decide (p<32)=true:=zT (by omega);have hr:=qax H0.out h1;have HR:=zh hr;clear hr;clear hO hp e hne hn h1;go_enter Tryz.func106,Tryz.ntmps106;go_wp2_with (go_at_call 104;refine C.mono ?_;rintro e w' ⟨rfl,rfl⟩)
   go_ret3
   exact ⟨by rw [HR.out];rfl,rfl⟩
  ·by_cases h2:byt (s.data.toList.drop q) 0=92
   ·have e:=qal H0.out (by omega);obtain rfl:p=92:=by rw [hO,h2] at e;exact congrArg Prod.fst e
    have hr:=qaJ H0.out h2;have HR:=zh hr;clear hr;have H2:=zh h2;clear h2;have D:=qez s q w HS.out hq H2.out;clear hO e hne hn h1;go_enter Tryz.func106,Tryz.ntmps106;go_wp2_with (first | (go_at_call 104;refine C.mono ?_;rintro e w' ⟨rfl,rfl⟩) | (go_at_call 116;refine D.mono ?_;rintro e w' ⟨rfl,rfl⟩))
    go_ret3
    exact ⟨by rw [HR.out];rfl,rfl⟩
   ·have hr:=qbw H0.out hne h1 h2;rw [hO] at hr;have hp:32≤p∧p≠92:=by
     by_cases h3:byt (s.data.toList.drop q) 0<128
     ·have e:=qal H0.out h3;rw [hO] at e;have:=congrArg Prod.fst e;simp only at this;omega
     ·have:=qcN (by omega) hne;rw [hO] at this;simp only at this;omega
    have hd1:decide (p<32)=false:=zF (by omega);have hd2:(p != 92)=true:=by rw [bne_iff_ne];exact hp.2
    have HR:=zh hr;clear hr;clear hO hp hne hn h1 h2;go_enter Tryz.func106,Tryz.ntmps106;go_wp2_with (go_at_call 104;refine C.mono ?_;rintro e w' ⟨rfl,rfl⟩)
    go_ret3
    exact ⟨by rw [HR.out];rfl,rfl⟩
def qca (r:List UInt8×Int×Int) (w:World) (e:Ending) (w':World):Prop:=
 e = .returned (.tuple #[.string (ae r.1),.int .i64 r.2.1,.int .i64 r.2.2])∧Below w.heap.size w w'
theorem qdl {a a':ByteArray} {b b' c c':Int} (h1:a=a') (h2:b=b') (h3:c=c'):Ending.returned (.tuple #[.string a,.int .i64 b,.int .i64 c]) = .returned (.tuple #[.string a',.int .i64 b',.int .i64 c']):=by rw [h1,h2,h3]
theorem cZ (s:ByteArray) (k:Nat) (z u n e:Int) (w:World) (hz:z=(k:Int)) (hs:s.size≤maxLen) (hk:k<s.size) (h:Hid (aQ (s.data.toList.drop k)=(u,n,e))) :
  Calls Tryz.prog 106 #[.string s,.int .i64 z] w fun r w'=>r = .returned (.tuple #[.int .i32 u,.int .i64 n,.int .i64 e])∧w=w':=by
 subst hz;have:=qge s k w hs hk;rw [h.out] at this;exact this
def qlQ (L:List UInt8) (k:Nat) (ps:List Int) (u:Int):Prop:=
 (u=0∧qbP L k ps)∨(cy u=true∧∃ j,k=j+6∧k≤L.length∧qbP L j ps∧aQ (L.drop j)=(u,6,0))
theorem qlh (s:ByteArray) (q:Nat) (w:World) (hs:s.size≤maxLen) (hq:q<s.size) (hb:byt s.data.toList q=34) (hr:(aG (s.data.toList.drop (q+1))).2.1+16≤140737488355328) :
  Calls Tryz.prog 95 #[.string s,.int .i64 q] w (qca (bz s.data.toList q) w):=by
 obtain ⟨i0,hi,hz0,hz1,hz2⟩:=info_parts b8;have hs':=hs;have HS:=zh hs;clear hs;unfold maxLen at hs';have B:=zh hb;have hq34:((s[q].toNat:Int) != 34)=false:=by
  rw [bf s q hq] at hb;rw [hb];rfl
 clear hb;obtain ⟨L,hL⟩:∃ L,L=s.data.toList.drop (q+1):=⟨_,rfl⟩
 have hdr:∀ k,s.data.toList.drop (q+1+k)=L.drop k:=fun k=>by rw [hL,List.drop_drop]
 have hlen:L.length=s.size-(q+1):=by rw [hL];simp
 rw [←hL] at hr;have hbad:∀ (k:Nat) (ps:List Int) (e:Int),aG L=(ps,k,e)→e≠0→bz s.data.toList q=([],(q:Int)+1+k,e):=fun k ps e h he=>qhE (by rw [ai];exact hq) B.out (by rw [←hL];exact h) he;have hok:∀ (k:Nat) (ps:List Int),aG L=(ps,k,0)→bz s.data.toList q=(bL ps,(q:Int)+1+k+1,0):=fun k ps h=>qiN (by rw [ai];exact hq) B.out (by rw [←hL];exact h);have HL:=zh hL;clear hL;have HDR:=zh hdr;clear hdr;have HLEN:=zh hlen;clear hlen;have BAD:=zh hbad;clear hbad;have OK:=zh hok;clear hok;have HR:=zh hr;clear hr;have hq0:decide ((q:Int)<0)=false:=zF (by omega);have hq1:decide (s.size≤q)=false:=zF (by omega);go_enter Tryz.func95,Tryz.ntmps95;go_wp2_with fail;go_loopw [7,8,9,10,11,12] (fun v u i _ _ _ wr=>∃ (k:Nat) (ps:List Int) (u0:Int),i = .int .i64 (q+1+k:Nat)∧u = .int .i32 u0∧qlQ L k ps u0∧wr.ownsRow w.heap.size 5 1 v (Lib.byteCells (bL ps)).length (Lib.byteCells (bL ps))∧Below w.heap.size w wr) (fun _ _ i _ _ _ _=>s.size-(intOf i).toNat)
 case atStart=>exact ⟨0,[],0,by go_num,rfl,.inl ⟨rfl,qbP.start _⟩,World.ownsRow_nil _ _ _ _,Below.refl _ _⟩
 case round=>
  obtain ⟨k,ps,u0,rfl,rfl,hat,hown,hbel⟩:=hrel;have hkl:k≤L.length:=by
   rcases hat with ⟨_,h⟩ | ⟨_,j,_,h,_⟩
   ·exact h.1
   ·exact h
  have hk:q+1+k≤s.size:=by have:=HLEN.out;omega
  have hbB:=hbel.size;by_cases hgo:k<L.length∧byt (L.drop k) 0≠34
  ·obtain ⟨hlt,hb34⟩:=hgo;have hlt':q+1+k<s.size:=by have:=HLEN.out;omega
   have hld:decide (q+1+k<s.size)=true:=zT hlt';have h0:(L.drop k).length≠0:=by simp;omega
   have hg:byt (L.drop k) 0=(s[q+1+k].toNat:Int):=by rw [←HDR.out,bv,Nat.add_zero,bf s _ hlt']
   have ht:((s[q+1+k].toNat:Int) != 34)=true:=by rw [bne_iff_ne,←hg];exact hb34
   have H0:=zh h0;clear h0;have HB:=zh hb34;clear hb34;have HG:=zh hg;clear hg;rcases hU:aQ (L.drop k) with ⟨p,n,e⟩;have hbd:=qgK (L.drop k);rw [hU] at hbd;obtain ⟨p0,p1,n0,n1,n2,hee⟩:=hbd;simp only at p0 p1 n0 n1 n2 hee;rw [List.length_drop] at n2;have HU:=zh (show aQ (s.data.toList.drop (q+1+k))=(p,n,e) by rw [HDR.out];exact hU);have HV:=zh hU;clear hU;rcases hat with ⟨rfl,hrd⟩ | ⟨hup,j,rfl,_,hrd,huj⟩
   ·have HRD:=zh hrd;clear hrd;by_cases he:e=0
    ·subst he;clear hee;by_cases hl:bR p=true
     ·go_wp2_with (first | (go_at_call 106;refine (cZ s _ _ _ _ _ _ (by omega) HS.out hlt' HU).mono ?_;rintro r w' ⟨rfl,rfl⟩) | (go_at_call 107;refine (bO _ _).mono ?_;rintro r w' ⟨rfl,rfl⟩))
      go_ret3
      refine ⟨?_,hbel⟩;rw [BAD.out k ps 20 (HRD.out.err (qis H0.out (by rw [HV.out];exact hl))) (by decide)];exact qdl rfl rfl rfl
     ·have hl':bR p=false:=by simpa using hl
      clear hl;by_cases hu:cy p=true
      ·obtain rfl:n=6:=qhO H0.out HV.out hu;have hi1:q+1+k+6≤s.size:=by have:=HLEN.out;omega
       go_wp2_with (first | (go_at_call 106;refine (cZ s _ _ _ _ _ _ (by omega) HS.out hlt' HU).mono ?_;rintro r w' ⟨rfl,rfl⟩) | (go_at_call 107;refine (bO _ _).mono ?_;rintro r w' ⟨rfl,rfl⟩) | (go_at_call 110;refine (qaB _ _).mono ?_;rintro r w' ⟨rfl,rfl⟩))
       go_roundw
       case rel=>exact ⟨k+6,ps,p,by go_num,rfl,.inr ⟨hu,k,rfl,by omega,HRD.out,HV.out⟩,hown,hbel⟩
       case measure=>simp [intOf];omega
      ·have hu':cy p=false:=by simpa using hu
       clear hu;have hst:aw (L.drop k)=(p,n,0):=by
        have:=qed H0.out HB.out (by rw [HV.out]) (by rw [HV.out];exact hu') (by rw [HV.out];exact hl');rw [this,HV.out]
       have hpos:=qj8 H0.out HB.out (by rw [HV.out]);rw [HV.out] at hpos;simp only at hpos;obtain ⟨m,rfl⟩:=Int.eq_ofNat_of_zero_le n0;have hm:m≠0:=by omega
       have HST:=zh hst;clear hst;have hkm:k+m≤L.length:=by omega
       have hi1:q+1+k+m≤s.size:=by have:=HLEN.out;omega
       have hle:=HRD.out.le;have hsz:(Lib.byteCells (bL ps)).length+4≤140737488355328:=by rw [Lib.byteCells_length];have:=HRD.out.2.1;have:=HR.out;omega
       have hle4:=qdh p;by_cases h92:byt (L.drop k) 0=92
       ·have h92':((s[q+1+k].toNat:Int) != 92)=false:=by rw [←HG.out,h92];rfl
        clear h92;go_wp2_with (first | (go_at_call 106;refine (cZ s _ _ _ _ _ _ (by omega) HS.out hlt' HU).mono ?_;rintro r w' ⟨rfl,rfl⟩) | (go_at_call 107;refine (bO _ _).mono ?_;rintro r w' ⟨rfl,rfl⟩) | (go_at_call 110;refine (qaB _ _).mono ?_;rintro r w' ⟨rfl,rfl⟩))
        refine (qcz p wr).mono ?_;rintro r w1 ⟨rfl,hb1⟩;have hown1:=aH hown hb1;go_wp2_with (at_builtin;refine Lib.wpList_append_own_string _ rfl _ _ 82 9 rfl w.heap.size 5 i0 Tryz.underlying82 Tryz.underlying9 hi hz0 hz1 hz2 _ _ _ rfl hown1 (ae (enc p)) rfl ?_ ?_ ?_ ?_;(rw [aJ];unfold maxLen;omega);(rw [aJ];omega);(have:=hb1.size;omega);intro v2 w2 hown2 hg2 _)
        go_roundw
        case rel=>exact ⟨k+m,ps++[p],0,by go_num,rfl,.inl ⟨rfl,HRD.out.step HST.out hm⟩,by rw [cW,Lib.byteCells_append,List.length_append];simpa [bL,aJ,qcl,Lib.byteCells_length] using hown2,(hbel.trans (hb1.mono hbB)).grown hg2 (by have:=hb1.size;omega) (fun g hg=>(hown.lt g hg).1)⟩
        case measure=>simp [intOf];omega
       ·have h92':((s[q+1+k].toNat:Int) != 92)=true:=by rw [bne_iff_ne,←HG.out];exact h92
        have ho1:=qjS H0.out h92 HV.out;have hcell:=qcc s (q+1+k) m p (by rw [HDR.out];exact ho1) hm;have hxz:(s.extract (q+1+k) (q+1+k+m)).size=(enc p).length:=by
         rw [←Lib.strCells_length,hcell,Lib.byteCells_length]
        have HC:=zh hcell;clear hcell;have HX:=zh hxz;clear hxz;clear h92 ho1;have f1:(0:Int)≤(q:Int)+1+k:=by omega
        have f2:(q:Int)+1+k≤(q:Int)+1+k+m:=by omega
        have f3:(q:Int)+1+k+m≤(s.size:Int):=by omega
        have f4:((q:Int)+1+k).toNat=q+1+k:=by omega
        have f5:((q:Int)+1+k+m).toNat=q+1+k+m:=by omega
        go_wp2_with (first | (go_at_call 106;refine (cZ s _ _ _ _ _ _ (by omega) HS.out hlt' HU).mono ?_;rintro r w' ⟨rfl,rfl⟩) | (go_at_call 107;refine (bO _ _).mono ?_;rintro r w' ⟨rfl,rfl⟩) | (go_at_call 110;refine (qaB _ _).mono ?_;rintro r w' ⟨rfl,rfl⟩) | (at_builtin;refine Lib.wpList_append_own_string _ rfl _ _ 82 9 rfl w.heap.size 5 i0 Tryz.underlying82 Tryz.underlying9 hi hz0 hz1 hz2 _ _ _ rfl hown (s.extract (q+1+k) (q+1+k+m)) rfl ?_ ?_ ?_ ?_;(rw [HX.out];unfold maxLen;omega);(rw [HX.out];omega);omega;intro v2 w2 hown2 hg2 _))
        go_roundw
        case rel=>exact ⟨k+m,ps++[p],0,by go_num,rfl,.inl ⟨rfl,HRD.out.step HST.out hm⟩,by rw [cW,Lib.byteCells_append,List.length_append];rw [HC.out,HX.out] at hown2;simpa [bL,Lib.byteCells_length] using hown2,hbel.grown hg2 hbB (fun g hg=>(hown.lt g hg).1)⟩
        case measure=>simp [intOf];omega
    ·have hne:(e != 0)=true:=by rw [bne_iff_ne];exact he
     go_wp2_with (first | (go_at_call 106;refine (cZ s _ _ _ _ _ _ (by omega) HS.out hlt' HU).mono ?_;rintro r w' ⟨rfl,rfl⟩))
     go_ret3
     refine ⟨?_,hbel⟩;have hst:=qin H0.out HB.out (by rw [HV.out];exact he);rw [HV.out] at hst;rw [BAD.out k ps e (HRD.out.err hst) he];exact qdl rfl rfl rfl
   ·have HRD:=zh hrd;clear hrd;have HUJ:=zh huj;clear huj;have hup1:=qa5 hup;have hu0:(u0 != 0)=true:=by rw [bne_iff_ne];omega
    by_cases he:e=0
    ·subst he;clear hee;by_cases hl:bR p=true
     ·obtain ⟨hpu,rfl⟩:=qgq H0.out HV.out hl;have hst:=qm4 hup HUJ.out (by rw [hpu];exact hl);rw [hpu] at hst;have hb0:=qe3 hup hl;have HST:=zh hst;clear hst hpu;have hi1:q+1+(j+6)+6≤s.size:=by have:=HLEN.out;omega
      have hle:=HRD.out.le;have hsz:(Lib.byteCells (bL ps)).length+4≤140737488355328:=by rw [Lib.byteCells_length];have:=HRD.out.2.1;have:=HR.out;omega
      have hle4:=qdh (dd u0 p);go_wp2_with (first | (go_at_call 106;refine (cZ s _ _ _ _ _ _ (by omega) HS.out hlt' HU).mono ?_;rintro r w' ⟨rfl,rfl⟩) | (go_at_call 107;refine (bO _ _).mono ?_;rintro r w' ⟨rfl,rfl⟩) | (go_at_call 109;refine (qiI _ _ _ hup hl).mono ?_;rintro r w' ⟨rfl,rfl⟩))
      refine (qcz _ _).mono ?_;rintro r w1 ⟨rfl,hb1⟩;have hown1:=aH hown hb1;go_wp2_with (at_builtin;refine Lib.wpList_append_own_string _ rfl _ _ 82 9 rfl w.heap.size 5 i0 Tryz.underlying82 Tryz.underlying9 hi hz0 hz1 hz2 _ _ _ rfl hown1 (ae (enc (dd u0 p))) rfl ?_ ?_ ?_ ?_;(rw [aJ];unfold maxLen;omega);(rw [aJ];omega);(have:=hb1.size;omega);intro v2 w2 hown2 hg2 _)
      go_roundw
      case rel=>exact ⟨j+12,ps++[dd u0 p],0,by go_num,rfl,.inl ⟨rfl,HRD.out.step HST.out (by decide)⟩,by rw [cW,Lib.byteCells_append,List.length_append];simpa [bL,aJ,qcl,Lib.byteCells_length] using hown2,(hbel.trans (hb1.mono hbB)).grown hg2 (by have:=hb1.size;omega) (fun g hg=>(hown.lt g hg).1)⟩
      case measure=>simp [intOf];omega
     ·have hl':bR p=false:=by simpa using hl
      clear hl;go_wp2_with (first | (go_at_call 106;refine (cZ s _ _ _ _ _ _ (by omega) HS.out hlt' HU).mono ?_;rintro r w' ⟨rfl,rfl⟩) | (go_at_call 107;refine (bO _ _).mono ?_;rintro r w' ⟨rfl,rfl⟩))
      go_ret3
      refine ⟨?_,hbel⟩;rw [BAD.out j ps 20 (HRD.out.err (qcy hup HUJ.out (qdJ H0.out HV.out (.inr hl')))) (by decide)];exact qdl rfl (by simp only;omega) rfl
    ·have hne:(e != 0)=true:=by rw [bne_iff_ne];exact he
     go_wp2_with (first | (go_at_call 106;refine (cZ s _ _ _ _ _ _ (by omega) HS.out hlt' HU).mono ?_;rintro r w' ⟨rfl,rfl⟩))
     go_ret3
     refine ⟨?_,hbel⟩;rw [BAD.out j ps 20 (HRD.out.err (qcy hup HUJ.out (qdJ H0.out HV.out (.inl he)))) (by decide)];exact qdl rfl (by simp only;omega) rfl
  ·have hcv:=(Rd.of_own hown).conv (P:=Tryz.prog) Tryz.underlying82 Tryz.underlying5 Tryz.underlying9
   by_cases hlt:k<L.length
   ·have hb34:byt (L.drop k) 0=34:=by
     by_cases h:byt (L.drop k) 0=34
     ·exact h
     ·exact absurd ⟨hlt,h⟩ hgo
    have hlt':q+1+k<s.size:=by have:=HLEN.out;omega
    have hld:decide (q+1+k<s.size)=true:=zT hlt';have h0:(L.drop k).length≠0:=by simp;omega
    have hg:byt (L.drop k) 0=(s[q+1+k].toNat:Int):=by rw [←HDR.out,bv,Nat.add_zero,bf s _ hlt']
    have ht:((s[q+1+k].toNat:Int) != 34)=false:=by rw [←hg,hb34];rfl
    have hend:((q:Int)+1+k==(s.size:Int))=false:=by rw [beq_eq_false_iff_ne];omega
    have hno:ao (L.drop k) = -1:=qhu (by omega);have hst:=qfH h0 hb34;have HST:=zh hst;clear hst;have HNO:=zh hno;clear hno;clear hg hb34 h0 hgo;rcases hat with ⟨rfl,hrd⟩ | ⟨hup,j,rfl,_,hrd,huj⟩
    ·have HRD:=zh hrd;clear hrd;go_wp2_with fail;go_ret3
     refine ⟨?_,hbel⟩;rw [OK.out k ps (HRD.out.err HST.out)];exact qdl rfl rfl rfl
    ·have HRD:=zh hrd;clear hrd;have HUJ:=zh huj;clear huj;have hup1:=qa5 hup;have hu0:(u0 != 0)=true:=by rw [bne_iff_ne];omega
     go_wp2_with fail;go_ret3
     refine ⟨?_,hbel⟩;rw [BAD.out j ps 20 (HRD.out.err (qcy hup HUJ.out (by rw [HNO.out];rfl))) (by decide)];exact qdl rfl (by simp only;omega) rfl
   ·obtain hkL:k=L.length:=by omega
    have hks:q+1+k=s.size:=by have:=HLEN.out;omega
    have hld:decide (q+1+k<s.size)=false:=zF (by omega);have hend:((q:Int)+1+k==(s.size:Int))=true:=by rw [beq_iff_eq];omega
    have h0:(L.drop k).length=0:=by simp;omega
    have hst:=qhn h0;have hno:=qh3 h0;have HST:=zh hst;clear hst;have HNO:=zh hno;clear hno;have HKS:=zh hks;clear hks;clear h0 hkL hgo;rcases hat with ⟨rfl,hrd⟩ | ⟨hup,j,rfl,_,hrd,huj⟩
    ·have HRD:=zh hrd;clear hrd;go_wp2_with fail;go_ret3
     refine ⟨?_,hbel⟩;rw [BAD.out k ps 20 (HRD.out.err HST.out) (by decide)];exact qdl rfl rfl rfl
    ·have HRD:=zh hrd;clear hrd;have HUJ:=zh huj;clear huj;have hup1:=qa5 hup;have hu0:(u0 != 0)=true:=by rw [bne_iff_ne];omega
     go_wp2_with fail;go_ret3
     refine ⟨?_,hbel⟩;rw [BAD.out j ps 20 (HRD.out.err (qcy hup HUJ.out (by rw [HNO.out];rfl))) (by decide)];exact qdl rfl (by simp only;omega) rfl
theorem qc0 (s:ByteArray) (a:Int) (w:World) (hs:s.size≤maxLen) (hr:∀ q:Nat,a=q→q<s.size→byt s.data.toList q=34→(aG (s.data.toList.drop (q+1))).2.1+16≤140737488355328) :
  Calls Tryz.prog 95 #[.string s,.int .i64 a] w (qca (bz s.data.toList a) w):=by
 by_cases h0:a<0
 ·have hd:decide (a<0)=true:=zT h0;go_enter Tryz.func95,Tryz.ntmps95;go_wp2_with fail;go_ret3
  refine ⟨?_,Below.refl _ _⟩;rw [qaZ (.inl h0)];exact qdl rfl rfl rfl
 ·obtain ⟨q,rfl⟩:=Int.eq_ofNat_of_zero_le (Int.not_lt.mp h0);by_cases h1:q<s.size
  ·by_cases h2:byt s.data.toList q=34
   ·exact qlh s q w hs h1 h2 (hr q rfl h1 h2)
   ·have hq34:((s[q].toNat:Int) != 34)=true:=by rw [bne_iff_ne,←bf s q h1];exact h2
    have hq0:decide ((q:Int)<0)=false:=zF (by omega);have hq1:decide (s.size≤q)=false:=zF (by omega);unfold maxLen at hs;clear hr;go_enter Tryz.func95,Tryz.ntmps95;go_wp2_with fail;go_ret3
    refine ⟨?_,Below.refl _ _⟩;rw [qaZ (.inr (.inr (by rw [Int.toNat_natCast];exact h2)))];exact qdl rfl rfl rfl
  ·have hq0:decide ((q:Int)<0)=false:=zF (by omega);have hq1:decide (s.size≤q)=true:=zT (by omega);unfold maxLen at hs;clear hr;go_enter Tryz.func95,Tryz.ntmps95;go_wp2_with fail;go_ret3
   refine ⟨?_,Below.refl _ _⟩;rw [qaZ (.inr (.inl (by rw [ai];omega)))];exact qdl rfl rfl rfl
