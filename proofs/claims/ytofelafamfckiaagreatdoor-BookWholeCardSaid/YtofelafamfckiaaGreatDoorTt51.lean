/- Merged: BkN BkD. -/
import Derived.Test.YtofelafamfckiaaGreatDoorTt50
import Derived.Test.YtofelafamfckiaaGreatDoorTt37
import Derived.Test.YtofelafamfckiaaGreatDoorTt44
import Derived.Test.YtofelafamfckiaaGreatDoorTt48
import Derived.Deep.WholeRow
import Derived.Laws.Tables
set_option maxRecDepth 100000
set_option maxHeartbeats 4000000
namespace Go.Proofs.YtofelafamfckiaaGreatDoor
namespace Bk
open Go.Proofs Go.RowKit Utf Sc Re Tr
theorem qhX (nm:List UInt8) (v:V) (A0 A20:Option Addr) (c0 c20:Nat) (w:World) :
  Calls Tryz.prog 26 #[.agg #[.string (ae nm),.int .i64 v.k,.int .i64 v.n,.string (ae v.s),.slice A0 v.l.length c0,.slice A20 v.ms.length c20]] w (qdo (.bool (aP nm v)) w):=by
 obtain ⟨k,hk⟩:∃ x,v.k=x:=⟨_,rfl⟩
 obtain ⟨n,hn⟩:∃ x,v.n=x:=⟨_,rfl⟩
 obtain ⟨S,hS⟩:∃ x,ae v.s=x:=⟨_,rfl⟩
 obtain ⟨N,hN⟩:∃ x,ae nm=x:=⟨_,rfl⟩
 have HK:=zh hk;have HNN:=zh hn;have HSS:=zh (show v.s.length=S.size by rw [←hS,aF]);have HN:=zh (show N.toList=nm by rw [←hN,aA]);rw [hk,hn,hS,hN];clear hk hn hS hN;generalize v.l.length=l at *;generalize v.ms.length=m at *;obtain ⟨W0,hW0⟩:∃ W0,W0=w.alloc (.cells #[.string N,.int .i64 k,.int .i64 n,.string S,.slice A0 l c0,.slice A20 m c20] 37):=⟨_,rfl⟩
 obtain ⟨W1,hW1⟩:∃ W1,W1=W0.alloc (.cells #[.int .i64 k,.int .i64 n,.string S,.slice A0 l c0,.slice A20 m c20] 25):=⟨_,rfl⟩
 have hs0:W0.heap.size=w.heap.size+1:=by rw [hW0,aG]
 have HB1:=zh (show Below w.heap.size w W1 by rw [hW1];exact Below.alloc (by rw [hW0];exact (Below.refl _ _).alloc (Nat.le_refl _) _) (by omega) _);have hr0:W0.heap[w.heap.size]? = some (.cells #[.string N,.int .i64 k,.int .i64 n,.string S,.slice A0 l c0,.slice A20 m c20] 37 (0,0)):=by rw [hW0];exact am _ _
 have hr1:W1.heap[W0.heap.size]? = some (.cells #[.int .i64 k,.int .i64 n,.string S,.slice A0 l c0,.slice A20 m c20] 25 (0,0)):=by rw [hW1];exact am _ _
 have hr2:W1.heap[w.heap.size]? = some (.cells #[.string N,.int .i64 k,.int .i64 n,.string S,.slice A0 l c0,.slice A20 m c20] 37 (0,0)):=by rw [hW1];exact b7 hr0 _
 obtain ⟨x0,x1,x2,x3,x4,x5⟩:=qdc hr0;obtain ⟨y0,y1,y2,y3,y4,y5⟩:=qdc hr2;obtain ⟨⟨p0,p1,p2,p3,p4⟩, -⟩:=ai hr1;have HS0:=zh hs0;have HW0:=zh hW0;have HW1:=zh hW1;clear hW0 hW1 hr0 hr1 hr2 hs0;by_cases e0:nm=bb
 ·have HE:=zh e0;have n0:(N.toList==[100,101,115,99,114,105,112,116,105,111,110])=true:=by rw [HN.out,HE.out];rfl
  have m0:N.toList=[100,101,115,99,114,105,112,116,105,111,110]:=by rw [HN.out,HE.out];rfl
  have n1:(N.toList==[105,115,83,117,98,115,99,114,105,98,101,100])=false:=by rw [HN.out];exact beq_eq_false_iff_ne.2 (by rw [HE.out];decide)
  have m1:¬N.toList=[105,115,83,117,98,115,99,114,105,98,101,100]:=by rw [HN.out];rw [HE.out];decide
  have n2:(N.toList==[110,97,109,101])=false:=by rw [HN.out];exact beq_eq_false_iff_ne.2 (by rw [HE.out];decide)
  have m2:¬N.toList=[110,97,109,101]:=by rw [HN.out];rw [HE.out];decide
  have n3:(N.toList==[115,111,114,116,79,114,100,101,114])=false:=by rw [HN.out];exact beq_eq_false_iff_ne.2 (by rw [HE.out];decide)
  have m3:¬N.toList=[115,111,114,116,79,114,100,101,114]:=by rw [HN.out];rw [HE.out];decide
  clear e0;by_cases h1:k=1
  ·subst h1;have HM:=zh (show aP nm v=true by unfold aP;rw [HE.out,HK.out,HNN.out,HSS.out];simp [bb,bO,ay,bK];try omega);go_enter Tryz.func26,Tryz.ntmps26;go_wp2_with (first | rw [←HW0.out] | rw [←HW1.out])
   go_ret;exact ⟨by rw [HM.out];trivial,HB1.out⟩
  ·have aa:decide ((k:Int)=1)=false:=zF (by omega);have ab:((k:Int)==1)=false:=by rw [beq_eq_false_iff_ne];omega
   have ac:¬(k:Int)=1:=by omega
   by_cases h2:k=4
   ·subst h2;by_cases h3:S.size≤1024
    ·have da:decide (((S.size:Nat):Int)≤1024)=true:=zT (by omega);have db:decide (S.size≤1024)=true:=zT (by omega);have HM:=zh (show aP nm v=true by unfold aP;rw [HE.out,HK.out,HNN.out,HSS.out];simp [bb,bO,ay,bK];try omega);go_enter Tryz.func26,Tryz.ntmps26;go_wp2_with (first | rw [←HW0.out] | rw [←HW1.out])
     go_ret;exact ⟨by rw [HM.out];trivial,HB1.out⟩
    ·have da:decide (((S.size:Nat):Int)≤1024)=false:=zF (by omega);have db:decide (S.size≤1024)=false:=zF (by omega);have HM:=zh (show aP nm v=false by unfold aP;rw [HE.out,HK.out,HNN.out,HSS.out];simp [bb,bO,ay,bK];try omega);go_enter Tryz.func26,Tryz.ntmps26;go_wp2_with (first | rw [←HW0.out] | rw [←HW1.out])
     go_ret;exact ⟨by rw [HM.out];trivial,HB1.out⟩
   ·have ca:decide ((k:Int)=4)=false:=zF (by omega);have cb:((k:Int)==4)=false:=by rw [beq_eq_false_iff_ne];omega
    have cc:¬(k:Int)=4:=by omega
    have HM:=zh (show aP nm v=false by unfold aP;rw [HE.out,HK.out,HNN.out,HSS.out];simp [bb,bO,ay,bK];try omega);go_enter Tryz.func26,Tryz.ntmps26;go_wp2_with (first | rw [←HW0.out] | rw [←HW1.out])
    go_ret;exact ⟨by rw [HM.out];trivial,HB1.out⟩
 by_cases e1:nm=bO
 ·have HE:=zh e1;have n0:(N.toList==[100,101,115,99,114,105,112,116,105,111,110])=false:=by rw [HN.out];exact beq_eq_false_iff_ne.2 (by rw [HE.out];decide)
  have m0:¬N.toList=[100,101,115,99,114,105,112,116,105,111,110]:=by rw [HN.out];rw [HE.out];decide
  have n1:(N.toList==[105,115,83,117,98,115,99,114,105,98,101,100])=true:=by rw [HN.out,HE.out];rfl
  have m1:N.toList=[105,115,83,117,98,115,99,114,105,98,101,100]:=by rw [HN.out,HE.out];rfl
  have n2:(N.toList==[110,97,109,101])=false:=by rw [HN.out];exact beq_eq_false_iff_ne.2 (by rw [HE.out];decide)
  have m2:¬N.toList=[110,97,109,101]:=by rw [HN.out];rw [HE.out];decide
  have n3:(N.toList==[115,111,114,116,79,114,100,101,114])=false:=by rw [HN.out];exact beq_eq_false_iff_ne.2 (by rw [HE.out];decide)
  have m3:¬N.toList=[115,111,114,116,79,114,100,101,114]:=by rw [HN.out];rw [HE.out];decide
  clear e0 e1;by_cases h0:k=2
  ·subst h0;have HM:=zh (show aP nm v=true by unfold aP;rw [HE.out,HK.out,HNN.out,HSS.out];simp [bb,bO,ay,bK];try omega);go_enter Tryz.func26,Tryz.ntmps26;go_wp2_with (first | rw [←HW0.out] | rw [←HW1.out])
   go_ret;exact ⟨by rw [HM.out];trivial,HB1.out⟩
  ·have aa:decide ((k:Int)=2)=false:=zF (by omega);have ab:((k:Int)==2)=false:=by rw [beq_eq_false_iff_ne];omega
   have ac:¬(k:Int)=2:=by omega
   have HM:=zh (show aP nm v=false by unfold aP;rw [HE.out,HK.out,HNN.out,HSS.out];simp [bb,bO,ay,bK];try omega);go_enter Tryz.func26,Tryz.ntmps26;go_wp2_with (first | rw [←HW0.out] | rw [←HW1.out])
   go_ret;exact ⟨by rw [HM.out];trivial,HB1.out⟩
 by_cases e2:nm=ay
 ·have HE:=zh e2;have n0:(N.toList==[100,101,115,99,114,105,112,116,105,111,110])=false:=by rw [HN.out];exact beq_eq_false_iff_ne.2 (by rw [HE.out];decide)
  have m0:¬N.toList=[100,101,115,99,114,105,112,116,105,111,110]:=by rw [HN.out];rw [HE.out];decide
  have n1:(N.toList==[105,115,83,117,98,115,99,114,105,98,101,100])=false:=by rw [HN.out];exact beq_eq_false_iff_ne.2 (by rw [HE.out];decide)
  have m1:¬N.toList=[105,115,83,117,98,115,99,114,105,98,101,100]:=by rw [HN.out];rw [HE.out];decide
  have n2:(N.toList==[110,97,109,101])=true:=by rw [HN.out,HE.out];rfl
  have m2:N.toList=[110,97,109,101]:=by rw [HN.out,HE.out];rfl
  have n3:(N.toList==[115,111,114,116,79,114,100,101,114])=false:=by rw [HN.out];exact beq_eq_false_iff_ne.2 (by rw [HE.out];decide)
  have m3:¬N.toList=[115,111,114,116,79,114,100,101,114]:=by rw [HN.out];rw [HE.out];decide
  clear e0 e1 e2;by_cases h2:k=4
  ·subst h2;by_cases h1:1≤S.size
   ·have ca:decide ((1:Int)≤((S.size:Nat):Int))=true:=zT (by omega);have cb:decide (1≤S.size)=true:=zT (by omega);by_cases h0:S.size≤255
    ·have da:decide (((S.size:Nat):Int)≤255)=true:=zT (by omega);have db:decide (S.size≤255)=true:=zT (by omega);have HM:=zh (show aP nm v=true by unfold aP;rw [HE.out,HK.out,HNN.out,HSS.out];simp [bb,bO,ay,bK];try omega);go_enter Tryz.func26,Tryz.ntmps26;go_wp2_with (first | rw [←HW0.out] | rw [←HW1.out])
     go_ret;exact ⟨by rw [HM.out];trivial,HB1.out⟩
    ·have da:decide (((S.size:Nat):Int)≤255)=false:=zF (by omega);have db:decide (S.size≤255)=false:=zF (by omega);have HM:=zh (show aP nm v=false by unfold aP;rw [HE.out,HK.out,HNN.out,HSS.out];simp [bb,bO,ay,bK];try omega);go_enter Tryz.func26,Tryz.ntmps26;go_wp2_with (first | rw [←HW0.out] | rw [←HW1.out])
     go_ret;exact ⟨by rw [HM.out];trivial,HB1.out⟩
   ·have ca:decide ((1:Int)≤((S.size:Nat):Int))=false:=zF (by omega);have cb:decide (1≤S.size)=false:=zF (by omega);have HM:=zh (show aP nm v=false by unfold aP;rw [HE.out,HK.out,HNN.out,HSS.out];simp [bb,bO,ay,bK];try omega);go_enter Tryz.func26,Tryz.ntmps26;go_wp2_with (first | rw [←HW0.out] | rw [←HW1.out])
    go_ret;exact ⟨by rw [HM.out];trivial,HB1.out⟩
  ·have aa:decide ((k:Int)=4)=false:=zF (by omega);have ab:((k:Int)==4)=false:=by rw [beq_eq_false_iff_ne];omega
   have ac:¬(k:Int)=4:=by omega
   have HM:=zh (show aP nm v=false by unfold aP;rw [HE.out,HK.out,HNN.out,HSS.out];simp [bb,bO,ay,bK];try omega);go_enter Tryz.func26,Tryz.ntmps26;go_wp2_with (first | rw [←HW0.out] | rw [←HW1.out])
   go_ret;exact ⟨by rw [HM.out];trivial,HB1.out⟩
 by_cases e3:nm=bK
 ·have HE:=zh e3;have n0:(N.toList==[100,101,115,99,114,105,112,116,105,111,110])=false:=by rw [HN.out];exact beq_eq_false_iff_ne.2 (by rw [HE.out];decide)
  have m0:¬N.toList=[100,101,115,99,114,105,112,116,105,111,110]:=by rw [HN.out];rw [HE.out];decide
  have n1:(N.toList==[105,115,83,117,98,115,99,114,105,98,101,100])=false:=by rw [HN.out];exact beq_eq_false_iff_ne.2 (by rw [HE.out];decide)
  have m1:¬N.toList=[105,115,83,117,98,115,99,114,105,98,101,100]:=by rw [HN.out];rw [HE.out];decide
  have n2:(N.toList==[110,97,109,101])=false:=by rw [HN.out];exact beq_eq_false_iff_ne.2 (by rw [HE.out];decide)
  have m2:¬N.toList=[110,97,109,101]:=by rw [HN.out];rw [HE.out];decide
  have n3:(N.toList==[115,111,114,116,79,114,100,101,114])=true:=by rw [HN.out,HE.out];rfl
  have m3:N.toList=[115,111,114,116,79,114,100,101,114]:=by rw [HN.out,HE.out];rfl
  clear e0 e1 e2 e3;by_cases h2:k=3
  ·subst h2;by_cases h1:0≤n
   ·have ca:decide ((0:Int)≤n)=true:=zT (by omega);have cb:decide ((n:Int)≥0)=true:=zT (by omega);have cc:(n:Int)≥0:=by omega
    by_cases h0:n≤2147483647
    ·have da:decide ((n:Int)≤2147483647)=true:=zT (by omega);have dc:(n:Int)≤2147483647:=by omega
     have HM:=zh (show aP nm v=true by unfold aP;rw [HE.out,HK.out,HNN.out,HSS.out];simp [bb,bO,ay,bK];try omega);go_enter Tryz.func26,Tryz.ntmps26;go_wp2_with (first | rw [←HW0.out] | rw [←HW1.out])
     go_ret;exact ⟨by rw [HM.out];trivial,HB1.out⟩
    ·have da:decide ((n:Int)≤2147483647)=false:=zF (by omega);have dc:¬(n:Int)≤2147483647:=by omega
     have HM:=zh (show aP nm v=false by unfold aP;rw [HE.out,HK.out,HNN.out,HSS.out];simp [bb,bO,ay,bK];try omega);go_enter Tryz.func26,Tryz.ntmps26;go_wp2_with (first | rw [←HW0.out] | rw [←HW1.out])
     go_ret;exact ⟨by rw [HM.out];trivial,HB1.out⟩
   ·have ca:decide ((0:Int)≤n)=false:=zF (by omega);have cb:decide ((n:Int)≥0)=false:=zF (by omega);have cc:¬(n:Int)≥0:=by omega
    have HM:=zh (show aP nm v=false by unfold aP;rw [HE.out,HK.out,HNN.out,HSS.out];simp [bb,bO,ay,bK];try omega);go_enter Tryz.func26,Tryz.ntmps26;go_wp2_with (first | rw [←HW0.out] | rw [←HW1.out])
    go_ret;exact ⟨by rw [HM.out];trivial,HB1.out⟩
  ·have aa:decide ((k:Int)=3)=false:=zF (by omega);have ab:((k:Int)==3)=false:=by rw [beq_eq_false_iff_ne];omega
   have ac:¬(k:Int)=3:=by omega
   have HM:=zh (show aP nm v=false by unfold aP;rw [HE.out,HK.out,HNN.out,HSS.out];simp [bb,bO,ay,bK];try omega);go_enter Tryz.func26,Tryz.ntmps26;go_wp2_with (first | rw [←HW0.out] | rw [←HW1.out])
   go_ret;exact ⟨by rw [HM.out];trivial,HB1.out⟩
 have HE0:=zh e0;have HE1:=zh e1;have HE2:=zh e2;have HE3:=zh e3;have n0:(N.toList==[100,101,115,99,114,105,112,116,105,111,110])=false:=by rw [HN.out];exact beq_eq_false_iff_ne.2 (by exact HE0.out)
 have m0:¬N.toList=[100,101,115,99,114,105,112,116,105,111,110]:=by rw [HN.out];exact HE0.out
 have n1:(N.toList==[105,115,83,117,98,115,99,114,105,98,101,100])=false:=by rw [HN.out];exact beq_eq_false_iff_ne.2 (by exact HE1.out)
 have m1:¬N.toList=[105,115,83,117,98,115,99,114,105,98,101,100]:=by rw [HN.out];exact HE1.out
 have n2:(N.toList==[110,97,109,101])=false:=by rw [HN.out];exact beq_eq_false_iff_ne.2 (by exact HE2.out)
 have m2:¬N.toList=[110,97,109,101]:=by rw [HN.out];exact HE2.out
 have n3:(N.toList==[115,111,114,116,79,114,100,101,114])=false:=by rw [HN.out];exact beq_eq_false_iff_ne.2 (by exact HE3.out)
 have m3:¬N.toList=[115,111,114,116,79,114,100,101,114]:=by rw [HN.out];exact HE3.out
 have HM:=zh (show aP nm v=false by unfold aP;simp [e0,e1,e2,e3]);clear e0 e1 e2 e3;go_enter Tryz.func26,Tryz.ntmps26;go_wp2_with (first | rw [←HW0.out] | rw [←HW1.out])
 go_ret;exact ⟨by rw [HM.out];trivial,HB1.out⟩
end Bk
end Go.Proofs.YtofelafamfckiaaGreatDoor
set_option linter.unusedSimpArgs false
namespace Go.Proofs.YtofelafamfckiaaGreatDoor
namespace Bk
open Go.Proofs Go.RowKit Go.Lib Utf Sc Re Tr Po
open Cd (mem fst)
theorem qiV {W w':World} {o:Obj} (hb:Below (W.alloc o).drew.heap.size (W.alloc o).drew w'):w'.heap[W.heap.size]? = some o:=
 (hb.block _ (show W.heap.size<(W.alloc o).heap.size by rw [aG];exact Nat.lt_succ_self _)).trans (am W o)
