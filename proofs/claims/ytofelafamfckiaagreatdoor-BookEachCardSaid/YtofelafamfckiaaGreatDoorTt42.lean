/- Merged: BkAw0. -/
import Derived.Test.YtofelafamfckiaaGreatDoorTt30
import Derived.Test.YtofelafamfckiaaGreatDoorTt41
namespace Go.Proofs.YtofelafamfckiaaGreatDoor
namespace Bk
open Go.Proofs Utf Sc Re Tr Em
open Cd (mem fst qcp)
set_option linter.unusedSimpArgs false
def awV:V:=mpV ([[110,97,109,101]],[txV [97]])
def awW:V:=mpV ([[115,111,114,116,79,114,100,101,114],[120]],[nmV (-1),nmV 1])
theorem qkh:cF [123,34,110,97,109,101,34,58,34,97,34,125] =
 ([(1,0,[123],0),(4,0,[110,97,109,101],1),(1,0,[58],7),(4,0,[97],8),(1,0,[125],11)],0,0):=by decide +kernel
theorem qle:rdV [123,34,110,97,109,101,34,58,34,97,34,125]=(awV,0,0):=
 qiC qkh (by simp [rdT,cP,pV,pL,pM,tk,isM,qbT,Rs.map,txV,nmV,wdV,lsV,mpV,bU,bM,V0,awV,awW])
theorem qj7:cF [123,34,115,111,114,116,79,114,100,101,114,34,58,45,49,44,34,120,34,58,49,125] =
 ([(1,0,[123],0),(4,0,[115,111,114,116,79,114,100,101,114],1),(1,0,[58],12),(3, -1,[],13),(1,0,[44],15),(4,0,[120],16),(1,0,[58],19),(3,1,[],20),(1,0,[125],21)],0,0):=by decide +kernel
theorem ql3:rdV [123,34,115,111,114,116,79,114,100,101,114,34,58,45,49,44,34,120,34,58,49,125]=(awW,0,0):=
 qiC qj7 (by simp [rdT,cP,pV,pL,pM,tk,isM,qbT,Rs.map,txV,nmV,wdV,lsV,mpV,bU,bM,V0,awV,awW])
theorem qhV:∀ n,bZ awV n=false:=(cr awV).2 ⟨rfl,(fun m hm=>List.all_eq_true.1 (show ((mem awV).all fun m=>ay m.1 m.2)=true by decide +kernel) m hm),(by decide +kernel)⟩
theorem qhW {v:V} (hk:v.k=6) {n:List UInt8} (h:bZ v n=true):n∈v.ns++[aq]:=by
 rw [List.mem_append];rcases (qae hk n).1 h with ⟨m,h1,h2, -⟩ | ⟨rfl, -⟩
 ·exact .inl (h2▸qcp h1)
 ·exact .inr (by simp)
theorem qlq:(awW.ns++[aq]).all (fun n=>decide (bZ awW n=true↔n∈[[110,97,109,101],[115,111,114,116,79,114,100,101,114],[120]]))=true:=by decide +kernel
theorem qkA : [[110,97,109,101],[115,111,114,116,79,114,100,101,114],[120]].all (fun n=>bZ awW n)=true:=by decide +kernel
theorem qls (n:List UInt8):bZ awW n=true↔n∈[[110,97,109,101],[115,111,114,116,79,114,100,101,114],[120]]:=by
 constructor
 ·intro h;have:=List.all_eq_true.1 qlq n (qhW rfl h);exact (of_decide_eq_true this).1 h
 ·intro h;exact List.all_eq_true.1 qkA n h
theorem qhx {l r:List (List UInt8)} (hl:l.Pairwise fun a b=>ltN a b=true) (hr:r.Pairwise fun a b=>ltN a b=true) (h:∀ n,n∈l↔n∈r):l=r:=by
 have nd:∀ {q:List (List UInt8)},(q.Pairwise fun a b=>ltN a b=true)→q.Nodup:=fun hq=>hq.imp fun {a b} h e=>by subst e;rw [qcu.irrefl] at h;cases h
 have le:∀ {q:List (List UInt8)},(q.Pairwise fun a b=>ltN a b=true)→q.Pairwise (fun a b=>ltN b a=false):=fun hq=>hq.imp fun {a b} h=>by
  cases hc:ltN b a with
  | false=>rfl
  | true=>
   have:=qcu.trans _ _ _ h hc;rw [qcu.irrefl] at this;cases this
 exact qdz l r ((List.perm_ext_iff_of_nodup (nd hl) (nd hr)).2 h) (le hl) (le hr)
theorem qhR:chk (qar awV)=0:=by decide +kernel
theorem qlK:qkt (qar awV)=[123,34,100,101,115,99,114,105,112,116,105,111,110,34,58,110,117,108,108,44,34,105,115,83,117,98,115,99,114,105,98,101,100,34,58,116,114,117,101,44,34,110,97,109,101,34,58,34,97,34,44,34,115,111,114,116,79,114,100,101,114,34,58,48,125]:=by
 unfold qkt;rw [if_pos qhR]
 decide +kernel
theorem qlI:qar awV=mpV (qbl,[qiL,qif,txV [97],qiJ]):=by kernel_rfl
theorem qag (v:V) (h:v=awV∨v=awW∨v=qar awV):wfV v∧szU v≤1000∧bo v:=by
 rcases h with rfl | rfl | rfl
 ·refine ⟨?_,?_,?_⟩
  ·simp [awV,mpV,nmV,txV,wfV,wfL];decide
  ·simp [awV,mpV,nmV,txV,szU,cj]
  ·simp [awV,mpV,nmV,txV,bo,ci]
 ·refine ⟨?_,?_,?_⟩
  ·simp [awW,mpV,nmV,txV,wfV,wfL];decide
  ·simp [awW,mpV,nmV,txV,szU,cj]
  ·simp [awW,mpV,nmV,txV,bo,ci]
 ·rw [qlI];refine ⟨?_,?_,?_⟩
  ·simp [qbl,qiL,qif,qiJ,mpV,nmV,txV,wfV,wfL];decide
  ·simp [qbl,aE,bh,aq,be,qiL,qif,qiJ,mpV,nmV,txV,szU,cj]
  ·simp [qbl,qiL,qif,qiJ,mpV,nmV,txV,bo,ci]
