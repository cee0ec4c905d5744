/- Merged: NuA NuD. -/
import Derived.Test.YtofelafamfckiaaGreatDoorTt0
import Derived.Deep.QuietTactic
import Derived.BigQuiet
import Derived.WalkLawsBesides
import Derived.WalkSpells
import Derived.IntWalk
set_option maxRecDepth 100000
set_option maxHeartbeats 1000000
namespace Go.Proofs.YtofelafamfckiaaGreatDoor
namespace Nu
open Go.RowKit Utf
theorem qap (b:Int) (w:World):Calls Tryz.prog 118 #[.int .u8 b] w fun e w'=>e = .returned (.bool (isD b))∧w=w':=by
 go_enter Tryz.func118,Tryz.ntmps118;go_wp2
 all_goals
  go_ret;exact ⟨bM (by rw [Bool.eq_iff_iff];simp [isD];omega),rfl⟩
theorem dj (r:Int) (w:World) (h0 : -9≤r) (h1:r≤9):Calls Tryz.prog 92 #[.int .i64 r] w fun e w'=>e = .returned (.int .u8 (48+r.natAbs:Nat))∧w=w':=by
 by_cases hr:r<0
 ·have hd:decide (r<0)=true:=zT hr;go_enter Tryz.func92,Tryz.ntmps92;go_wp2;go_ret;exact ⟨qch (by omega),rfl⟩
 ·have hd:decide (r<0)=false:=zF hr;go_enter Tryz.func92,Tryz.ntmps92;go_wp2;go_ret;exact ⟨qch (by omega),rfl⟩
def cp (l:List UInt8) (f e:Nat):Bool:= !decide (f=e∨(1<e-f∧byt l f=48)∨(byt l e=46∨byt l e=101∨byt l e=69))
theorem qdv {l:List UInt8} {f e:Nat} (h:f=e∨(1<e-f∧byt l f=48)∨(byt l e=46∨byt l e=101∨byt l e=69)):cp l f e=false:=by rw [cp,zT h];rfl
theorem qcZ {l:List UInt8} {f e:Nat} (h:¬(f=e∨(1<e-f∧byt l f=48)∨(byt l e=46∨byt l e=101∨byt l e=69))):cp l f e=true:=by rw [cp,zF h];rfl
theorem qee (s:ByteArray) (f e:Nat) (w:World) (hs:s.size≤9223372036854775807) (hfe:f≤e) (he:e≤s.size) :
  Calls Tryz.prog 112 #[.string s,.int .i64 f,.int .i64 e] w fun r w'=>r = .returned (.bool (cp s.data.toList f e))∧w=w':=by
 by_cases h0:f=e
 ·rw [qdv (.inl h0)];subst h0;go_enter Tryz.func112,Tryz.ntmps112;go_wp2;go_ret;exact ⟨rfl,rfl⟩
 ·have hf:f<s.size:=by omega
  have h0b:decide ((f:Int)=(e:Int))=false:=zF (by omega);have h0c:decide (f=e)=false:=zF (by omega);have g:=aY s f hf;have hx:IntKind.i64.wrap ((e:Int)-(f:Int))=(e:Int)-(f:Int):=IntWalk.i64_in _ (by omega);by_cases hA:byt s.data.toList f=48
  ·have hAb:decide ((s[f].toNat:Int)=48)=true:=zT (by omega);have hAc:(s[f].toNat:Int)=48:=by omega
   by_cases hB:1<e-f
   ·rw [qdv (.inr (.inl ⟨hB,hA⟩))];have hBb:decide (1<(e:Int)-(f:Int))=true:=zT (by omega);clear g hA;go_enter Tryz.func112,Tryz.ntmps112;go_wp2;go_ret;exact ⟨rfl,rfl⟩
   ·have hBb:decide (1<(e:Int)-(f:Int))=false:=zF (by omega);by_cases h1:e=s.size
    ·rw [qcZ (by rw [qbw (k:=e) (by rw [af];omega)];omega)];have h1b:decide ((e:Int)=(s.size:Int))=true:=zT (by omega);have h1c:decide (e=s.size)=true:=zT (by omega);clear g hA;subst h1;go_enter Tryz.func112,Tryz.ntmps112;go_wp2;go_ret;exact ⟨rfl,rfl⟩
    ·have h1b:decide ((e:Int)=(s.size:Int))=false:=zF (by omega);have h1c:decide (e=s.size)=false:=zF (by omega);have g2:=aY s e (by omega);unfold cp;rw [g2];clear g hA;go_enter Tryz.func112,Tryz.ntmps112;go_wp2
     all_goals
      go_ret;exact ⟨bM (by simp only [beq_iff_eq,beq_eq_false_iff_ne,ne_eq] at *;simp;omega),rfl⟩
  ·have hAb:decide ((s[f].toNat:Int)=48)=false:=zF (by omega);have hAc:¬(s[f].toNat:Int)=48:=by omega
   by_cases h1:e=s.size
   ·rw [qcZ (by rw [qbw (k:=e) (by rw [af];omega)];omega)];have h1b:decide ((e:Int)=(s.size:Int))=true:=zT (by omega);have h1c:decide (e=s.size)=true:=zT (by omega);clear g hA;subst h1;go_enter Tryz.func112,Tryz.ntmps112;go_wp2;go_ret;exact ⟨rfl,rfl⟩
   ·have h1b:decide ((e:Int)=(s.size:Int))=false:=zF (by omega);have h1c:decide (e=s.size)=false:=zF (by omega);have g2:=aY s e (by omega);unfold cp;rw [g2,g];clear g hA;go_enter Tryz.func112,Tryz.ntmps112;go_wp2
    all_goals
     go_ret;exact ⟨bM (by simp only [beq_iff_eq,beq_eq_false_iff_ne,ne_eq] at *;simp;omega),rfl⟩
def qao (m:Nat):Nat:=if m≤9007199254740992 then m else 9007199254740992
theorem qgN (m:Nat):qao m≤9007199254740992:=by unfold qao;split <;> omega
theorem qhi (m d:Nat):qao (m*10+d)=if qao m*10+d≤9007199254740992 then qao m*10+d else 9007199254740992:=by
 unfold qao;by_cases h:m≤9007199254740992
 ·rw [if_pos h]
 ·rw [if_neg h,if_neg (by omega),if_neg (by omega)]
theorem qdF (m:Nat):qao m=9007199254740992↔9007199254740991<m:=by unfold qao;split <;> omega
theorem qj3 {m:Nat} (h:¬9007199254740991<m):qao m=m:=by unfold qao;rw [if_pos (by omega)]
theorem qg9 (s:ByteArray) (p:Nat) (w:World) (hs:s.size≤9223372036854775807) (hp:p≤s.size) :
  Calls Tryz.prog 111 #[.string s,.int .i64 p] w fun e w'=>
   e = .returned (.tuple #[.int .i64 (qao (bB s.data.toList p (bR s.data.toList p)):Nat),.int .i64 (p+bR s.data.toList p:Nat)])∧w=w':=by
 go_enter Tryz.func111,Tryz.ntmps111;go_wp2;go_loop [1,6] (fun a n=>∃ k:Nat,qak s.data.toList p k=true∧p+k≤s.size∧a = .int .i64 (p+k:Nat)∧n = .int .i64 (qao (bB s.data.toList p k):Nat)) (fun a _=>s.size-(intOf a).toNat)
 case atStart=>exact ⟨0,rfl,by omega,rfl,rfl⟩
 case round=>
  obtain ⟨k,hd,hk,rfl,rfl⟩:=hrel;have HD:=zh hd;clear hd;have a1:=qgN (bB s.data.toList p k);have a2:=qhi (bB s.data.toList p k);have A2:=zh a2;clear a2;by_cases hlt:p+k<s.size
  ·have hlb:decide ((p+k:Nat)<s.size)=true:=zT hlt;have g:=aY s (p+k) hlt;have G:=zh g;by_cases hb:isD (byt s.data.toList (p+k))=true
   ·have hb2:=qkx hb;rw [g] at hb hb2;clear g;have e1:((s[p+k].toNat:Int)-48) % 256=(s[p+k].toNat:Int)-48:=by omega
    go_wp2_with (go_at_call 118;refine (qap _ _).mono ?_;rintro e w' ⟨rfl,rfl⟩)
    go_round
    case rel=>exact ⟨k+1,by rw [qak,HD.out,G.out];simpa using hb,by omega,by go_num,by rw [bB,A2.out,G.out];congr 1;split <;> split <;> omega⟩
    case measure=>simp [intOf];omega
   ·have hb':isD (s[p+k].toNat:Int)=false:=by rw [←g];simpa using hb
    clear g hb;go_wp2_with (go_at_call 118;refine (qap _ _).mono ?_;rintro e w' ⟨rfl,rfl⟩)
    go_ret2
    exact ⟨by rw [qgR HD.out (by rw [G.out];exact hb')];rfl,rfl⟩
  ·have hlb:decide ((p+k:Nat)<s.size)=false:=zF hlt;have hz:isD (byt s.data.toList (p+k))=false:=by rw [qbw (by rw [af];omega)];rfl
   have HZ:=zh hz;clear hz;go_wp2_with (go_at_call 118;refine (qap _ _).mono ?_;rintro e w' ⟨rfl,rfl⟩)
   go_ret2
   exact ⟨by rw [qgR HD.out HZ.out];rfl,rfl⟩
theorem qla (l:List UInt8) (p:Nat):rdN l p=if qao (bB l (aZ l p) (bR l (aZ l p)))=9007199254740992∨cp l (aZ l p) (aZ l p+bR l (aZ l p))=false then (0,(p:Int),30)
  else ((if byt l p=45 then -(bB l (aZ l p) (bR l (aZ l p)):Int) else (bB l (aZ l p) (bR l (aZ l p)):Int)),((aZ l p+bR l (aZ l p):Nat):Int),0):=by
 have hm:qdi=9007199254740991:=rfl;unfold rdN;generalize aZ l p=f;generalize bR l f=r;have:qce l f r↔(qao (bB l f r)=9007199254740992∨cp l f (f+r)=false):=by
  rw [qdF];unfold qce cp;rw [Bool.not_eq_false',decide_eq_true_eq,Nat.add_sub_cancel_left];omega
 by_cases h:qce l f r
 ·rw [if_pos h,if_pos (this.1 h)]
 ·rw [if_neg h,if_neg (fun h2=>h (this.2 h2))]
theorem qhd (s:ByteArray) (p:Nat) (w:World) (hs:s.size≤9223372036854775807) (hp:p≤s.size) (z:Int) (hz:z=(p:Int)) :
  Calls Tryz.prog 111 #[.string s,.int .i64 z] w fun e w'=>
   e = .returned (.tuple #[.int .i64 (qao (bB s.data.toList p (bR s.data.toList p)):Nat),.int .i64 (p+bR s.data.toList p:Nat)])∧w=w':=by
 subst hz;exact qg9 s p w hs hp
theorem qeu (s:ByteArray) (f e:Nat) (w:World) (hs:s.size≤9223372036854775807) (hfe:f≤e) (he:e≤s.size) (y z:Int) (hy:y=(f:Int)) (hz:z=(e:Int)) :
  Calls Tryz.prog 112 #[.string s,.int .i64 y,.int .i64 z] w fun r w'=>r = .returned (.bool (cp s.data.toList f e))∧w=w':=by
 subst hy hz;exact qee s f e w hs hfe he
theorem qk6 {j k m:IntKind} {a a' b b' c c':Int} (h1:a=a') (h2:b=b') (h3:c=c'):Ending.returned (.tuple #[.int j a,.int k b,.int m c]) = .returned (.tuple #[.int j a',.int k b',.int m c']):=by rw [h1,h2,h3]
theorem qkd (s:ByteArray) (p:Nat) (w:World) (hs:s.size≤9223372036854775807) (hp:p<s.size) :
  Calls Tryz.prog 96 #[.string s,.int .i64 p] w fun e w'=>
   e = .returned (.tuple #[.int .i64 (rdN s.data.toList p).1,.int .i64 (rdN s.data.toList p).2.1,.int .i64 (rdN s.data.toList p).2.2])∧w=w':=by
 rw [qla];have hfst:=qjC s.data.toList p hp;rw [af] at hfst;have hrl:=qgz s.data.toList (aZ s.data.toList p) hfst.2;rw [af] at hrl;have hsn:=qgN (bB s.data.toList (aZ s.data.toList p) (bR s.data.toList (aZ s.data.toList p)));have hid:¬qao (bB s.data.toList (aZ s.data.toList p) (bR s.data.toList (aZ s.data.toList p)))=9007199254740992→qao (bB s.data.toList (aZ s.data.toList p) (bR s.data.toList (aZ s.data.toList p)))=bB s.data.toList (aZ s.data.toList p) (bR s.data.toList (aZ s.data.toList p)):=by
  intro h;rw [qdF] at h;exact qj3 h
 have hf:aZ s.data.toList p=if (s[p].toNat:Int)=45 then p+1 else p:=by rw [aZ,aY s p hp]
 rw [aY s p hp];have cc:=fun z hz=>qhd s (aZ s.data.toList p) w hs hfst.2 z hz;have cw:=fun y z hy hz=>qeu s (aZ s.data.toList p) (aZ s.data.toList p+bR s.data.toList (aZ s.data.toList p)) w hs (by omega) hrl y z hy hz;generalize bB s.data.toList (aZ s.data.toList p) (bR s.data.toList (aZ s.data.toList p))=v at *;generalize bR s.data.toList (aZ s.data.toList p)=r at *;generalize aZ s.data.toList p=f at *;generalize cp s.data.toList f (f+r)=b at *;generalize hV:qao v=V at *;clear hV;have CC:=zh cc;clear cc;have CW:=zh cw;clear cw;by_cases h45:(s[p].toNat:Int)=45
 ·rw [if_pos h45] at hf;have t1:((s[p].toNat:Int)==45)=true:=by simpa using h45
  have t2:decide ((p:Int)<(p:Int)+1)=true:=zT (by omega);rw [if_pos h45];have H45:=zh h45;clear h45;by_cases hV:V=9007199254740992
  ·subst hV;rw [if_pos (.inl rfl)];clear hid;go_enter Tryz.func96,Tryz.ntmps96;go_wp2_with fail;refine (CC.out _ (by omega)).mono ?_;rintro e w' ⟨rfl,rfl⟩;go_wp2_with fail;go_ret3
   exact ⟨rfl,rfl⟩
  ·have e1:=hid hV;subst e1;clear hid;have t3:(((V:Nat):Int)==9007199254740992)=false:=by simp;omega
   cases b
   ·rw [if_pos (.inr rfl)];go_enter Tryz.func96,Tryz.ntmps96;go_wp2_with fail;refine (CC.out _ (by omega)).mono ?_;rintro e w' ⟨rfl,rfl⟩;go_wp2_with fail;refine (CW.out _ _ (by omega) (by omega)).mono ?_;rintro e w' ⟨rfl,rfl⟩;go_wp2_with fail;go_ret3
    exact ⟨rfl,rfl⟩
   ·rw [if_neg (by rintro (h | h);exact hV h;cases h)];go_enter Tryz.func96,Tryz.ntmps96;go_wp2_with fail;refine (CC.out _ (by omega)).mono ?_;rintro e w' ⟨rfl,rfl⟩;go_wp2_with fail;refine (CW.out _ _ (by omega) (by omega)).mono ?_;rintro e w' ⟨rfl,rfl⟩;go_wp2_with fail;go_ret3
    exact ⟨qk6 rfl (by rw [hf];simp) rfl,rfl⟩
 ·rw [if_neg h45] at hf;have t1:((s[p].toNat:Int)==45)=false:=by simpa using h45
  have t2:decide ((p:Int)<(p:Int))=false:=zF (by omega);rw [if_neg h45];have H45:=zh h45;clear h45;by_cases hV:V=9007199254740992
  ·subst hV;rw [if_pos (.inl rfl)];clear hid;go_enter Tryz.func96,Tryz.ntmps96;go_wp2_with fail;refine (CC.out _ (by omega)).mono ?_;rintro e w' ⟨rfl,rfl⟩;go_wp2_with fail;go_ret3
   exact ⟨rfl,rfl⟩
  ·have e1:=hid hV;subst e1;clear hid;have t3:(((V:Nat):Int)==9007199254740992)=false:=by simp;omega
   cases b
   ·rw [if_pos (.inr rfl)];go_enter Tryz.func96,Tryz.ntmps96;go_wp2_with fail;refine (CC.out _ (by omega)).mono ?_;rintro e w' ⟨rfl,rfl⟩;go_wp2_with fail;refine (CW.out _ _ (by omega) (by omega)).mono ?_;rintro e w' ⟨rfl,rfl⟩;go_wp2_with fail;go_ret3
    exact ⟨rfl,rfl⟩
   ·rw [if_neg (by rintro (h | h);exact hV h;cases h)];go_enter Tryz.func96,Tryz.ntmps96;go_wp2_with fail;refine (CC.out _ (by omega)).mono ?_;rintro e w' ⟨rfl,rfl⟩;go_wp2_with fail;refine (CW.out _ _ (by omega) (by omega)).mono ?_;rintro e w' ⟨rfl,rfl⟩;go_wp2_with fail;go_ret3
    exact ⟨qk6 rfl (by rw [hf];simp) rfl,rfl⟩
theorem qcv (s:ByteArray) (a:Int) (w:World) (hs:s.size≤9223372036854775807) :
  Calls Tryz.prog 96 #[.string s,.int .i64 a] w fun e w'=>
   e = .returned (.tuple #[.int .i64 (rdS s.data.toList a).1,.int .i64 (rdS s.data.toList a).2.1,.int .i64 (rdS s.data.toList a).2.2])∧w=w':=by
 by_cases h0:a<0
 ·rw [rdS,if_pos (.inl h0)];have hd:decide (a<0)=true:=zT h0;go_enter Tryz.func96,Tryz.ntmps96;go_wp2_with fail;go_ret3
  exact ⟨rfl,rfl⟩
 ·by_cases h1:(s.size:Int)≤a
  ·rw [rdS,if_pos (.inr h1)];have hd:decide (a<0)=false:=zF h0;have hd1:decide ((s.size:Int)≤a)=true:=zT h1;go_enter Tryz.func96,Tryz.ntmps96;go_wp2_with fail;go_ret3
   exact ⟨rfl,rfl⟩
  ·rw [rdS,if_neg (by rw [af];omega)];obtain ⟨q,rfl⟩:=Int.eq_ofNat_of_zero_le (Int.not_lt.mp h0);exact qkd s q w hs (by omega)
def bA (j:Nat) (ds:List UInt8):Array Value:=(List.replicate j (Value.int .u8 0)++Lib.byteCells ds).toArray
theorem qaq (j:Nat) (ds:List UInt8):(bA j ds).size=j+ds.length:=by simp [bA,Lib.byteCells]
theorem qde (m:Nat) (ds:List UInt8) (b:UInt8) (z:Int) (hz:z=b.toNat):(bA (m+1) ds).setIfInBounds m (.int .u8 z)=bA m (b::ds):=by
 subst hz;unfold bA;have h1:List.replicate (m+1) (Value.int .u8 0)=List.replicate m (Value.int .u8 0)++[Value.int .u8 0]:=by rw [List.replicate_succ']
 rw [h1,List.append_assoc,List.setIfInBounds_toArray,List.set_append_right _ _ (by simp)];simp [Lib.byteCells]
theorem qf8 (j:Nat) (ds:List UInt8) (i:Nat) (u:Value) (h:(Lib.byteCells ds)[i]? = some u):(bA j ds)[j+i]? = some u:=by
 unfold bA;rw [List.getElem?_toArray,List.getElem?_append_right (by simp)]
 simpa using h
def qhb (n:Int) (j:Nat) (rest:Int) (ds:List UInt8):Prop:=
 1≤j∧ds.length+j=20∧rest.natAbs<10 ^ (j-1)∧ -9223372036854775808≤rest∧rest≤9223372036854775807∧((j=20∧rest=n)∨(j<20∧qa4 n.natAbs=qfF rest.natAbs++ds))
theorem qlR {n:Int} (h0 : -9223372036854775808≤n) (h1:n≤9223372036854775807):qhb n 20 n []:=⟨by omega,rfl,by omega,h0,h1,.inl ⟨rfl,rfl⟩⟩
theorem qjj {n:Int} {j:Nat} {rest:Int} {ds:List UInt8} (h:qhb n j rest ds) (hr:rest≠0∨j=20):∃ m,j=m+1∧1≤m:=by
 obtain ⟨h1,h2,h3,_,_,_⟩:=h;refine ⟨j-1,by omega,?_⟩;rcases Nat.eq_zero_or_pos (j-1) with h0 | h0
 ·rw [h0] at h3;simp at h3;omega
 ·exact h0
theorem qez (r:Int):(r.tdiv 10).natAbs=r.natAbs / 10:=by rw [Int.natAbs_tdiv];rfl
theorem qd9 (r:Int):(r.tmod 10).natAbs=r.natAbs % 10:=by rw [Int.natAbs_tmod];rfl
theorem qhA {n:Int} {m:Nat} {rest:Int} {ds:List UInt8} (h:qhb n (m+1) rest ds) (hr:rest≠0∨m+1=20) (hm:1≤m):qhb n m (rest.tdiv 10) (dg rest.natAbs::ds):=by
 obtain ⟨h1,h2,h3,h4,h5,h6⟩:=h;have hd:=qez rest;have h20:(10:Nat) ^ m≤10 ^ 19:=Nat.pow_le_pow_right (by omega) (by omega);rw [Nat.add_sub_cancel] at h3;have hm':10 ^ m=10 ^ (m-1)*10:=by rw [←Nat.pow_succ];congr 1;omega
 refine ⟨hm,by rw [List.length_cons];omega,by rw [hd];omega,by omega,by omega,.inr ⟨by omega,?_⟩⟩;rw [hd];have hz:=qmd (m:=rest.natAbs) (by omega);rcases h6 with ⟨_,rfl⟩ | ⟨h7,h8⟩
 ·obtain rfl:ds=[]:=List.eq_nil_of_length_eq_zero (by omega);exact hz
 ·have h0:rest.natAbs≠0:=by omega
  rw [h8,qid h0,hz,List.append_assoc];rfl
theorem qir {n:Int} {j:Nat} {ds:List UInt8} (h:qhb n j 0 ds) (hj:j≠20):qa4 n.natAbs=ds:=by
 obtain ⟨_,_,_,_,_,h6⟩:=h;rcases h6 with ⟨h7,_⟩ | ⟨_,h8⟩
 ·exact absurd h7 hj
 ·rw [h8];simp [qfF]
theorem qdD (w:World) (T:TypeId) (j:Nat) (ds:List UInt8) (k:Nat) (hk:k=ds.length) (z:Nat) (hz:z=j):Rd (w.alloc (.cells (bA j ds) T)) (w.heap.size+1) (.slice (some ⟨w.heap.size,z,none⟩) k k) (Lib.byteCells ds):=by
 subst hk hz;refine ⟨_,_,by rw [Lib.byteCells_length],fun _=>⟨_,rfl,by show w.heap.size<_;omega,fun i u hu=>?_⟩⟩;have hp:(⟨w.heap.size,z,none⟩:Addr).add i=⟨w.heap.size,z+i,none⟩:=by unfold Addr.add;split <;> simp_all
 rw [hp];unfold World.cell?;rw [heap_alloc_new];exact qf8 z ds i u hu
theorem qfe (w:World) (B j:Nat) (hj:j<20) (z:Int) (hz:z=(j:Int)):(Instr.sliceAt 127 (.pointer (some ⟨B,0,none⟩)) (some (.int .i64 z)) none none).run Tryz.prog w = .ok (.slice (some ⟨B,j,none⟩) (20-j) (20-j)) w:=by
 subst hz;have hl:Tryz.prog.arrayLen 127=20:=by kernel_rfl
 have he:Tryz.prog.elem 127=5:=by kernel_rfl
 have hu:Tryz.prog.underlying 127=some (.array (Tryz.prog.arrayLen 127) (Tryz.prog.elem 127)):=by rw [hl,he];kernel_rfl
 rw [run_sliceAt_array_l w 127 _ hu .i64 (j:Int) (by omega) (by rw [hl];omega),he,hl];have hs:(sizeOf 5).run Tryz.prog w = .ok 1 w:=by simp [go_sem]
 rw [hs];have hne:¬20=j:=by omega
 simp [Result.andThen,slicedAt,hne,Addr.add];intro h;exact h.symm
theorem qcj (n:Int) (w:World) (hn0 : -9223372036854775808≤n) (hn1:n≤9223372036854775807) :
  Calls Tryz.prog 69 #[.int .i64 n] w (qdo (.string (ae (qa3 n))) w):=by
 go_enter Tryz.func69,Tryz.ntmps69;go_wp2_with fail;go_loopw [4,5] (fun i r wr=>∃ (j:Nat) (rest:Int) (ds:List UInt8),qhb n j rest ds∧i = .int .i64 j∧r = .int .i64 rest∧wr=w.alloc (.cells (bA j ds) 127)) (fun i _ _=>(intOf i).toNat)
 case atStart=>exact ⟨20,n,[],qlR hn0 hn1,rfl,rfl,rfl⟩
 case round=>
  obtain ⟨j,rest,ds,hI,rfl,rfl,rfl⟩:=hrel;have hb1 : -9223372036854775808≤rest:=hI.2.2.2.1;have hb2:rest≤9223372036854775807:=hI.2.2.2.2.1;have hj1:1≤j:=hI.1;have hj2:ds.length+j=20:=hI.2.1;by_cases hr:rest≠0∨j=20
  ·obtain ⟨m,rfl,hm⟩:=qjj hI hr;have hnext:=qhA hI hr hm;have HN:=zh hnext;clear hnext hI;have hcond:((rest != 0)=true)∨((rest != 0)=false∧(((m+1:Nat):Int)==20)=true):=by
    rcases hr with h | h
    ·exact .inl (by simpa using h)
    ·by_cases h0:rest=0
     ·exact .inr ⟨by simpa using h0,by simp;omega⟩
     ·exact .inl (by simpa using h0)
   clear hr;have hsz:(bA (m+1) ds).size=20:=by rw [qaq];omega
   have hset:=qde m ds (dg rest.natAbs) (48+(rest.natAbs:Int) % 10) (by rw [qlB];simp);have HSET:=zh hset;clear hset;have hmod:=qd9 rest;have hdg : -9≤rest.tmod 10∧rest.tmod 10≤9:=by omega
   have HMOD:=zh hmod;clear hmod;have hcell:∃ v,(w.alloc (.cells (bA (m+1) ds) 127)).cell? ⟨w.heap.size,m,none⟩=some v:=by
    unfold World.cell?;rw [heap_alloc_new];exact ⟨(bA (m+1) ds)[m]'(by omega),Array.getElem?_eq_getElem _⟩
   obtain ⟨cv,hcell⟩:=hcell;rcases hcond with h | ⟨h,h'⟩
   ·go_wp2_with fail;refine (dj _ _ hdg.1 hdg.2).mono ?_;rintro e w' ⟨rfl,rfl⟩;go_wp2_with fail;go_roundw
    case rel=>exact ⟨m,rest.tdiv 10,_,HN.out,rfl,rfl,by rw [HSET.out]⟩
    case measure=>simp [intOf]
   ·go_wp2_with fail;refine (dj _ _ hdg.1 hdg.2).mono ?_;rintro e w' ⟨rfl,rfl⟩;go_wp2_with fail;go_roundw
    case rel=>exact ⟨m,rest.tdiv 10,_,HN.out,rfl,rfl,by rw [HSET.out]⟩
    case measure=>simp [intOf]
  ·obtain rfl:rest=0:=by omega
   have hj:j≠20:=by omega
   have he:=qir hI hj;clear hI hr;have hjb:((j:Int)==20)=false:=by simp;omega
   by_cases hneg:n<0
   ·have hnb:decide (n<0)=true:=zT hneg;obtain ⟨m,rfl⟩:∃ m,j=m+1:=⟨j-1,by omega⟩
    have hput:qa3 n=45::ds:=by rw [qa3,if_pos hneg,he]
    have HP:=zh hput;clear hput;have HE:=zh he;clear he;have hsz:(bA (m+1) ds).size=20:=by rw [qaq];omega
    have hset:=qde m ds 45 45 rfl;have HSET:=zh hset;clear hset;have hcell:∃ v,(w.alloc (.cells (bA (m+1) ds) 127)).cell? ⟨w.heap.size,m,none⟩=some v:=by
     unfold World.cell?;rw [heap_alloc_new];exact ⟨(bA (m+1) ds)[m]'(by omega),Array.getElem?_eq_getElem _⟩
    obtain ⟨cv,hcell⟩:=hcell;have hjb2:((m:Int)+1==20)=false:=by simpa using hjb
    have hsl:=fun wx=>qfe wx w.heap.size m (by omega) m rfl;have hc:=(qdD w 127 m (45::ds) (20-m) (by rw [List.length_cons];omega) m rfl).conv (P:=Tryz.prog) Tryz.underlying82 Tryz.underlying5 Tryz.underlying9
    rw [←HSET.out] at hc;go_wp2_with fail;go_ret;exact ⟨by rw [HP.out];rfl,(Below.refl _ _).alloc (Nat.le_refl _) _⟩
   ·have hnb:decide (n<0)=false:=zF hneg;have hput:qa3 n=ds:=by rw [qa3,if_neg hneg,he]
    have HP:=zh hput;clear hput;have HE:=zh he;clear he;have hsz:(bA j ds).size=20:=by rw [qaq];omega
    have hsl:=fun wx=>qfe wx w.heap.size j (by omega) j rfl;have hc:=(qdD w 127 j ds (20-j) (by omega) j rfl).conv (P:=Tryz.prog) Tryz.underlying82 Tryz.underlying5 Tryz.underlying9
    go_wp2_with fail;go_ret;exact ⟨by rw [HP.out];rfl,(Below.refl _ _).alloc (Nat.le_refl _) _⟩
