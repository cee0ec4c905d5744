/- Merged: BkPl BkM. -/
import Derived.Test.YtofelafamfckiaaGreatDoorTt9
import Derived.Test.YtofelafamfckiaaGreatDoorTt30
set_option maxRecDepth 100000
set_option maxHeartbeats 4000000
namespace Go.Proofs.YtofelafamfckiaaGreatDoor
namespace Bk
open Go.Proofs Go.RowKit Utf
open Cd (mem fst isT btw qbO qg0)
open Re (V V0 mpV)
def aK:List UInt8:=[100,101,115,99,114,105,112,116,105,111,110]
def bu:List UInt8:=[105,115,83,117,98,115,99,114,105,98,101,100]
def ah:List UInt8:=[110,97,109,101]
def bt:List UInt8:=[115,111,114,116,79,114,100,101,114]
def aC (n:List UInt8) (v:V):Bool:=
 decide (n=aK∧(v.k=1∨v.k=4∧v.s.length≤1024)) || decide (n=bu∧v.k=2) || decide (n=ah∧v.k=4∧1≤v.s.length∧v.s.length≤255) || decide (n=bt∧v.k=3∧0≤v.n∧v.n≤2147483647)
def bI (v:V) (n:List UInt8):Bool:=
 if v.k=6 then (mem v).any (fun m=>decide (m.1=n)&& !aC m.1 m.2) || (decide (n=ah)&& !v.ns.contains ah)
 else decide (n=ah)
def qe4:V:= .mk 1 0 [] [] [] []
def qf7:V:= .mk 2 1 [] [] [] []
def qgm:V:= .mk 3 0 [] [] [] []
def orV (v:V) (n:List UInt8) (x:V):V:=(fst (mem v) n).getD x
def cz:List (List UInt8):=[aK,bu,ah,bt]
def bc (v:V):List V:=[orV v aK qe4,orV v bu qf7,orV v ah V0,orV v bt qgm]
def cq (v:V):V:=mpV (cz,bc v)
theorem cV {v:V} (hk:v.k=6) (n:List UInt8):bI v n=true↔(∃ m∈mem v,m.1=n∧aC m.1 m.2=false)∨(n=ah∧ah∉v.ns):=by
 unfold bI;rw [if_pos hk,Bool.or_eq_true];refine or_congr ?_ ?_
 ·rw [List.any_eq_true];refine exists_congr fun m=>and_congr_right fun _=>?_;simp
 ·simp
theorem qeS {v:V} (hk:v.k≠6) (n:List UInt8):bI v n=true↔n=ah:=by
 unfold bI;rw [if_neg hk];simp
theorem qbH (v:V):(∀ n,bI v n=false)↔v.k=6∧(∀ m∈mem v,aC m.1 m.2=true)∧ah∈v.ns:=by
 constructor
 ·intro h;have hk:v.k=6:=by
   by_cases hk:v.k=6
   ·exact hk
   ·have:=(qeS hk ah).2 rfl;rw [h] at this;cases this
  refine ⟨hk,fun m hm=>?_,?_⟩
  ·cases hb:aC m.1 m.2 with
   | true=>rfl
   | false=>
    have:=(cV hk m.1).2 (.inl ⟨m,hm,rfl,hb⟩);rw [h] at this;cases this
  ·by_cases hx:ah∈v.ns
   ·exact hx
   ·have:=(cV hk ah).2 (.inr ⟨rfl,hx⟩);rw [h] at this;cases this
 ·rintro ⟨hk,h1,h2⟩ n;rw [←Bool.not_eq_true,cV hk];rintro (⟨m,hm, -,hb⟩ | ⟨rfl,hx⟩)
  ·rw [h1 m hm] at hb;cases hb
  ·exact hx h2
theorem qjO {l:List (List UInt8×V)} {n:List UInt8} {x:V} (h:fst l n=some x):(n,x)∈l:=by
 unfold fst at h;cases hf:l.find? (fun m=>decide (m.1=n)) with
 | none=>rw [hf] at h;cases h
 | some m=>
  rw [hf] at h;injection h with h
  have h1:=List.mem_of_find?_eq_some hf;have h2:m.1=n:=by simpa using List.find?_some hf
  subst h h2;exact h1
theorem qiT {l:List (List UInt8×V)} {n:List UInt8}:fst l n=none↔∀ m∈l,m.1≠n:=by
 unfold fst;rw [Option.map_eq_none_iff,List.find?_eq_none];simp
end Bk
namespace Bk
open Go.Proofs Go.RowKit Utf Sc Re Tr
theorem qiz (nm:List UInt8) (v:V) (cs:List Value) (w:World) (hv:RdA w 0 w.heap.size v cs) :
  Calls Tryz.prog 18 #[.string (ae nm),.agg cs.toArray] w (qcp (.bool (aC nm v)) w):=by
 obtain ⟨A0,c0,A20,c20,ecs, -⟩:=hv.cells;subst ecs;clear hv;obtain ⟨k,hk⟩:∃ x,v.k=x:=⟨_,rfl⟩
 obtain ⟨n,hn⟩:∃ x,v.n=x:=⟨_,rfl⟩
 obtain ⟨S,hS⟩:∃ x,ae v.s=x:=⟨_,rfl⟩
 obtain ⟨N,hN⟩:∃ x,ae nm=x:=⟨_,rfl⟩
 have HK:=zh hk;have HNN:=zh hn;have HSS:=zh (show v.s.length=S.size by rw [←hS,aJ]);have HN:=zh (show N.toList=nm by rw [←hN,ay]);rw [hk,hn,hS,hN];clear hk hn hS hN;generalize v.l.length=l at *;generalize v.ms.length=m at *;obtain ⟨W0,hW0⟩:∃ W0,W0=w.alloc (.cells #[.int .i64 k,.int .i64 n,.string S,.slice A0 l c0,.slice A20 m c20] 25):=⟨_,rfl⟩
 have HB0:=zh (show Below w.heap.size w W0 by rw [hW0];exact (Below.refl _ _).alloc (Nat.le_refl _) _);have hr0:W0.heap[w.heap.size]? = some (.cells #[.int .i64 k,.int .i64 n,.string S,.slice A0 l c0,.slice A20 m c20] 25 (0,0)):=by rw [hW0];exact af _ _
 obtain ⟨⟨p0,p1,p2,p3,p4⟩, -⟩:=ag hr0;have HW0:=zh hW0;clear hW0 hr0;by_cases e0:nm=aK
 ·have HE:=zh e0;have n0:(N.toList==[100,101,115,99,114,105,112,116,105,111,110])=true:=by rw [HN.out,HE.out];rfl
  have m0:N.toList=[100,101,115,99,114,105,112,116,105,111,110]:=by rw [HN.out,HE.out];rfl
  have n1:(N.toList==[105,115,83,117,98,115,99,114,105,98,101,100])=false:=by rw [HN.out];exact beq_eq_false_iff_ne.2 (by rw [HE.out];decide)
  have m1:¬N.toList=[105,115,83,117,98,115,99,114,105,98,101,100]:=by rw [HN.out];rw [HE.out];decide
  have n2:(N.toList==[110,97,109,101])=false:=by rw [HN.out];exact beq_eq_false_iff_ne.2 (by rw [HE.out];decide)
  have m2:¬N.toList=[110,97,109,101]:=by rw [HN.out];rw [HE.out];decide
  have n3:(N.toList==[115,111,114,116,79,114,100,101,114])=false:=by rw [HN.out];exact beq_eq_false_iff_ne.2 (by rw [HE.out];decide)
  have m3:¬N.toList=[115,111,114,116,79,114,100,101,114]:=by rw [HN.out];rw [HE.out];decide
  clear e0;by_cases h1:k=1
  ·subst h1;have HM:=zh (show aC nm v=true by unfold aC;rw [HE.out,HK.out,HNN.out,HSS.out];simp [aK,bu,ah,bt];try omega);go_enter Tryz.func18,Tryz.ntmps18;simp only [List.append_eq,List.cons_append,List.nil_append];go_wp2_with (rw [←HW0.out])
   go_ret;exact ⟨by rw [HM.out];trivial,HB0.out⟩
  ·have aa:decide ((k:Int)=1)=false:=zF (by omega);have ab:((k:Int)==1)=false:=by rw [beq_eq_false_iff_ne];omega
   have ac:¬(k:Int)=1:=by omega
   by_cases h2:k=4
   ·subst h2;by_cases h3:S.size≤1024
    ·have da:decide (((S.size:Nat):Int)≤1024)=true:=zT (by omega);have db:decide (S.size≤1024)=true:=zT (by omega);have HM:=zh (show aC nm v=true by unfold aC;rw [HE.out,HK.out,HNN.out,HSS.out];simp [aK,bu,ah,bt];try omega);go_enter Tryz.func18,Tryz.ntmps18;simp only [List.append_eq,List.cons_append,List.nil_append];go_wp2_with (rw [←HW0.out])
     go_ret;exact ⟨by rw [HM.out];trivial,HB0.out⟩
    ·have da:decide (((S.size:Nat):Int)≤1024)=false:=zF (by omega);have db:decide (S.size≤1024)=false:=zF (by omega);have HM:=zh (show aC nm v=false by unfold aC;rw [HE.out,HK.out,HNN.out,HSS.out];simp [aK,bu,ah,bt];try omega);go_enter Tryz.func18,Tryz.ntmps18;simp only [List.append_eq,List.cons_append,List.nil_append];go_wp2_with (rw [←HW0.out])
     go_ret;exact ⟨by rw [HM.out];trivial,HB0.out⟩
   ·have ca:decide ((k:Int)=4)=false:=zF (by omega);have cb:((k:Int)==4)=false:=by rw [beq_eq_false_iff_ne];omega
    have cc:¬(k:Int)=4:=by omega
    have HM:=zh (show aC nm v=false by unfold aC;rw [HE.out,HK.out,HNN.out,HSS.out];simp [aK,bu,ah,bt];try omega);go_enter Tryz.func18,Tryz.ntmps18;simp only [List.append_eq,List.cons_append,List.nil_append];go_wp2_with (rw [←HW0.out])
    go_ret;exact ⟨by rw [HM.out];trivial,HB0.out⟩
 by_cases e1:nm=bu
 ·have HE:=zh e1;have n0:(N.toList==[100,101,115,99,114,105,112,116,105,111,110])=false:=by rw [HN.out];exact beq_eq_false_iff_ne.2 (by rw [HE.out];decide)
  have m0:¬N.toList=[100,101,115,99,114,105,112,116,105,111,110]:=by rw [HN.out];rw [HE.out];decide
  have n1:(N.toList==[105,115,83,117,98,115,99,114,105,98,101,100])=true:=by rw [HN.out,HE.out];rfl
  have m1:N.toList=[105,115,83,117,98,115,99,114,105,98,101,100]:=by rw [HN.out,HE.out];rfl
  have n2:(N.toList==[110,97,109,101])=false:=by rw [HN.out];exact beq_eq_false_iff_ne.2 (by rw [HE.out];decide)
  have m2:¬N.toList=[110,97,109,101]:=by rw [HN.out];rw [HE.out];decide
  have n3:(N.toList==[115,111,114,116,79,114,100,101,114])=false:=by rw [HN.out];exact beq_eq_false_iff_ne.2 (by rw [HE.out];decide)
  have m3:¬N.toList=[115,111,114,116,79,114,100,101,114]:=by rw [HN.out];rw [HE.out];decide
  clear e0 e1;by_cases h0:k=2
  ·subst h0;have HM:=zh (show aC nm v=true by unfold aC;rw [HE.out,HK.out,HNN.out,HSS.out];simp [aK,bu,ah,bt];try omega);go_enter Tryz.func18,Tryz.ntmps18;simp only [List.append_eq,List.cons_append,List.nil_append];go_wp2_with (rw [←HW0.out])
   go_ret;exact ⟨by rw [HM.out];trivial,HB0.out⟩
  ·have aa:decide ((k:Int)=2)=false:=zF (by omega);have ab:((k:Int)==2)=false:=by rw [beq_eq_false_iff_ne];omega
   have ac:¬(k:Int)=2:=by omega
   have HM:=zh (show aC nm v=false by unfold aC;rw [HE.out,HK.out,HNN.out,HSS.out];simp [aK,bu,ah,bt];try omega);go_enter Tryz.func18,Tryz.ntmps18;simp only [List.append_eq,List.cons_append,List.nil_append];go_wp2_with (rw [←HW0.out])
   go_ret;exact ⟨by rw [HM.out];trivial,HB0.out⟩
 by_cases e2:nm=ah
 ·have HE:=zh e2;have n0:(N.toList==[100,101,115,99,114,105,112,116,105,111,110])=false:=by rw [HN.out];exact beq_eq_false_iff_ne.2 (by rw [HE.out];decide)
  have m0:¬N.toList=[100,101,115,99,114,105,112,116,105,111,110]:=by rw [HN.out];rw [HE.out];decide
  have n1:(N.toList==[105,115,83,117,98,115,99,114,105,98,101,100])=false:=by rw [HN.out];exact beq_eq_false_iff_ne.2 (by rw [HE.out];decide)
  have m1:¬N.toList=[105,115,83,117,98,115,99,114,105,98,101,100]:=by rw [HN.out];rw [HE.out];decide
  have n2:(N.toList==[110,97,109,101])=true:=by rw [HN.out,HE.out];rfl
  have m2:N.toList=[110,97,109,101]:=by rw [HN.out,HE.out];rfl
  have n3:(N.toList==[115,111,114,116,79,114,100,101,114])=false:=by rw [HN.out];exact beq_eq_false_iff_ne.2 (by rw [HE.out];decide)
  have m3:¬N.toList=[115,111,114,116,79,114,100,101,114]:=by rw [HN.out];rw [HE.out];decide
  clear e0 e1 e2;by_cases h2:k=4
  ·subst h2;by_cases h1:1≤S.size
   ·have ca:decide ((1:Int)≤((S.size:Nat):Int))=true:=zT (by omega);have cb:decide (1≤S.size)=true:=zT (by omega);by_cases h0:S.size≤255
    ·have da:decide (((S.size:Nat):Int)≤255)=true:=zT (by omega);have db:decide (S.size≤255)=true:=zT (by omega);have HM:=zh (show aC nm v=true by unfold aC;rw [HE.out,HK.out,HNN.out,HSS.out];simp [aK,bu,ah,bt];try omega);go_enter Tryz.func18,Tryz.ntmps18;simp only [List.append_eq,List.cons_append,List.nil_append];go_wp2_with (rw [←HW0.out])
     go_ret;exact ⟨by rw [HM.out];trivial,HB0.out⟩
    ·have da:decide (((S.size:Nat):Int)≤255)=false:=zF (by omega);have db:decide (S.size≤255)=false:=zF (by omega);have HM:=zh (show aC nm v=false by unfold aC;rw [HE.out,HK.out,HNN.out,HSS.out];simp [aK,bu,ah,bt];try omega);go_enter Tryz.func18,Tryz.ntmps18;simp only [List.append_eq,List.cons_append,List.nil_append];go_wp2_with (rw [←HW0.out])
     go_ret;exact ⟨by rw [HM.out];trivial,HB0.out⟩
   ·have ca:decide ((1:Int)≤((S.size:Nat):Int))=false:=zF (by omega);have cb:decide (1≤S.size)=false:=zF (by omega);have HM:=zh (show aC nm v=false by unfold aC;rw [HE.out,HK.out,HNN.out,HSS.out];simp [aK,bu,ah,bt];try omega);go_enter Tryz.func18,Tryz.ntmps18;simp only [List.append_eq,List.cons_append,List.nil_append];go_wp2_with (rw [←HW0.out])
    go_ret;exact ⟨by rw [HM.out];trivial,HB0.out⟩
  ·have aa:decide ((k:Int)=4)=false:=zF (by omega);have ab:((k:Int)==4)=false:=by rw [beq_eq_false_iff_ne];omega
   have ac:¬(k:Int)=4:=by omega
   have HM:=zh (show aC nm v=false by unfold aC;rw [HE.out,HK.out,HNN.out,HSS.out];simp [aK,bu,ah,bt];try omega);go_enter Tryz.func18,Tryz.ntmps18;simp only [List.append_eq,List.cons_append,List.nil_append];go_wp2_with (rw [←HW0.out])
   go_ret;exact ⟨by rw [HM.out];trivial,HB0.out⟩
 by_cases e3:nm=bt
 ·have HE:=zh e3;have n0:(N.toList==[100,101,115,99,114,105,112,116,105,111,110])=false:=by rw [HN.out];exact beq_eq_false_iff_ne.2 (by rw [HE.out];decide)
  have m0:¬N.toList=[100,101,115,99,114,105,112,116,105,111,110]:=by rw [HN.out];rw [HE.out];decide
  have n1:(N.toList==[105,115,83,117,98,115,99,114,105,98,101,100])=false:=by rw [HN.out];exact beq_eq_false_iff_ne.2 (by rw [HE.out];decide)
  have m1:¬N.toList=[105,115,83,117,98,115,99,114,105,98,101,100]:=by rw [HN.out];rw [HE.out];decide
  have n2:(N.toList==[110,97,109,101])=false:=by rw [HN.out];exact beq_eq_false_iff_ne.2 (by rw [HE.out];decide)
  have m2:¬N.toList=[110,97,109,101]:=by rw [HN.out];rw [HE.out];decide
  have n3:(N.toList==[115,111,114,116,79,114,100,101,114])=true:=by rw [HN.out,HE.out];rfl
  have m3:N.toList=[115,111,114,116,79,114,100,101,114]:=by rw [HN.out,HE.out];rfl
  clear e0 e1 e2 e3;by_cases h2:k=3
  ·subst h2;by_cases h1:0≤n
   ·have ca:decide ((0:Int)≤n)=true:=zT (by omega);have cb:decide ((n:Int)≥0)=true:=zT (by omega);have cc:(n:Int)≥0:=by omega
    by_cases h0:n≤2147483647
    ·have da:decide ((n:Int)≤2147483647)=true:=zT (by omega);have dc:(n:Int)≤2147483647:=by omega
     have HM:=zh (show aC nm v=true by unfold aC;rw [HE.out,HK.out,HNN.out,HSS.out];simp [aK,bu,ah,bt];try omega);go_enter Tryz.func18,Tryz.ntmps18;simp only [List.append_eq,List.cons_append,List.nil_append];go_wp2_with (rw [←HW0.out])
     go_ret;exact ⟨by rw [HM.out];trivial,HB0.out⟩
    ·have da:decide ((n:Int)≤2147483647)=false:=zF (by omega);have dc:¬(n:Int)≤2147483647:=by omega
     have HM:=zh (show aC nm v=false by unfold aC;rw [HE.out,HK.out,HNN.out,HSS.out];simp [aK,bu,ah,bt];try omega);go_enter Tryz.func18,Tryz.ntmps18;simp only [List.append_eq,List.cons_append,List.nil_append];go_wp2_with (rw [←HW0.out])
     go_ret;exact ⟨by rw [HM.out];trivial,HB0.out⟩
   ·have ca:decide ((0:Int)≤n)=false:=zF (by omega);have cb:decide ((n:Int)≥0)=false:=zF (by omega);have cc:¬(n:Int)≥0:=by omega
    have HM:=zh (show aC nm v=false by unfold aC;rw [HE.out,HK.out,HNN.out,HSS.out];simp [aK,bu,ah,bt];try omega);go_enter Tryz.func18,Tryz.ntmps18;simp only [List.append_eq,List.cons_append,List.nil_append];go_wp2_with (rw [←HW0.out])
    go_ret;exact ⟨by rw [HM.out];trivial,HB0.out⟩
  ·have aa:decide ((k:Int)=3)=false:=zF (by omega);have ab:((k:Int)==3)=false:=by rw [beq_eq_false_iff_ne];omega
   have ac:¬(k:Int)=3:=by omega
   have HM:=zh (show aC nm v=false by unfold aC;rw [HE.out,HK.out,HNN.out,HSS.out];simp [aK,bu,ah,bt];try omega);go_enter Tryz.func18,Tryz.ntmps18;simp only [List.append_eq,List.cons_append,List.nil_append];go_wp2_with (rw [←HW0.out])
   go_ret;exact ⟨by rw [HM.out];trivial,HB0.out⟩
 have HE0:=zh e0;have HE1:=zh e1;have HE2:=zh e2;have HE3:=zh e3;have n0:(N.toList==[100,101,115,99,114,105,112,116,105,111,110])=false:=by rw [HN.out];exact beq_eq_false_iff_ne.2 (by exact HE0.out)
 have m0:¬N.toList=[100,101,115,99,114,105,112,116,105,111,110]:=by rw [HN.out];exact HE0.out
 have n1:(N.toList==[105,115,83,117,98,115,99,114,105,98,101,100])=false:=by rw [HN.out];exact beq_eq_false_iff_ne.2 (by exact HE1.out)
 have m1:¬N.toList=[105,115,83,117,98,115,99,114,105,98,101,100]:=by rw [HN.out];exact HE1.out
 have n2:(N.toList==[110,97,109,101])=false:=by rw [HN.out];exact beq_eq_false_iff_ne.2 (by exact HE2.out)
 have m2:¬N.toList=[110,97,109,101]:=by rw [HN.out];exact HE2.out
 have n3:(N.toList==[115,111,114,116,79,114,100,101,114])=false:=by rw [HN.out];exact beq_eq_false_iff_ne.2 (by exact HE3.out)
 have m3:¬N.toList=[115,111,114,116,79,114,100,101,114]:=by rw [HN.out];exact HE3.out
 have HM:=zh (show aC nm v=false by unfold aC;simp [e0,e1,e2,e3]);clear e0 e1 e2 e3;go_enter Tryz.func18,Tryz.ntmps18;simp only [List.append_eq,List.cons_append,List.nil_append];go_wp2_with (rw [←HW0.out])
 go_ret;exact ⟨by rw [HM.out];trivial,HB0.out⟩
