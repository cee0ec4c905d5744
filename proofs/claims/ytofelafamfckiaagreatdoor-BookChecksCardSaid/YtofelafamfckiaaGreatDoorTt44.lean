/- Merged: BkAw0. -/
import Derived.Test.YtofelafamfckiaaGreatDoorTt31
import Derived.Test.YtofelafamfckiaaGreatDoorTt43
namespace Go.Proofs.YtofelafamfckiaaGreatDoor
namespace Bk
open Go.Proofs Utf Sc Re Tr Em
open Cd (mem fst qbO)
set_option linter.unusedSimpArgs false
def awV:V:=mpV ([[110,97,109,101]],[txV [97]])
def awW:V:=mpV ([[115,111,114,116,79,114,100,101,114],[120]],[nmV (-1),nmV 1])
theorem qk1:cT [123,34,110,97,109,101,34,58,34,97,34,125] =
 ([(1,0,[123],0),(4,0,[110,97,109,101],1),(1,0,[58],7),(4,0,[97],8),(1,0,[125],11)],0,0):=by decide +kernel
theorem qlE:rdV [123,34,110,97,109,101,34,58,34,97,34,125]=(awV,0,0):=
 qiW qk1 (by simp [rdT,dh,pV,pL,pM,tk,isM,qbV,Rs.map,txV,nmV,wdV,lsV,mpV,cn,bX,V0,awV,awW])
theorem qk4:cT [123,34,115,111,114,116,79,114,100,101,114,34,58,45,49,44,34,120,34,58,49,125] =
 ([(1,0,[123],0),(4,0,[115,111,114,116,79,114,100,101,114],1),(1,0,[58],12),(3, -1,[],13),(1,0,[44],15),(4,0,[120],16),(1,0,[58],19),(3,1,[],20),(1,0,[125],21)],0,0):=by decide +kernel
theorem qlz:rdV [123,34,115,111,114,116,79,114,100,101,114,34,58,45,49,44,34,120,34,58,49,125]=(awW,0,0):=
 qiW qk4 (by simp [rdT,dh,pV,pL,pM,tk,isM,qbV,Rs.map,txV,nmV,wdV,lsV,mpV,cn,bX,V0,awV,awW])
theorem qj6:∀ n,bI awV n=false:=(qbH awV).2 ⟨rfl,(fun m hm=>List.all_eq_true.1 (show ((mem awV).all fun m=>aC m.1 m.2)=true by decide +kernel) m hm),(by decide +kernel)⟩
theorem qjx {v:V} (hk:v.k=6) {n:List UInt8} (h:bI v n=true):n∈v.ns++[ah]:=by
 rw [List.mem_append];rcases (cV hk n).1 h with ⟨m,h1,h2, -⟩ | ⟨rfl, -⟩
 ·exact .inl (h2▸qbO h1)
 ·exact .inr (by simp)
theorem qmf:(awW.ns++[ah]).all (fun n=>decide (bI awW n=true↔n∈[[110,97,109,101],[115,111,114,116,79,114,100,101,114],[120]]))=true:=by decide +kernel
theorem qkf : [[110,97,109,101],[115,111,114,116,79,114,100,101,114],[120]].all (fun n=>bI awW n)=true:=by decide +kernel
theorem qlu (n:List UInt8):bI awW n=true↔n∈[[110,97,109,101],[115,111,114,116,79,114,100,101,114],[120]]:=by
 constructor
 ·intro h;have:=List.all_eq_true.1 qmf n (qjx rfl h);exact (of_decide_eq_true this).1 h
 ·intro h;exact List.all_eq_true.1 qkf n h
theorem qdU {l r:List (List UInt8)} (hl:l.Pairwise fun a b=>ltN a b=true) (hr:r.Pairwise fun a b=>ltN a b=true) (h:∀ n,n∈l↔n∈r):l=r:=by
 have nd:∀ {q:List (List UInt8)},(q.Pairwise fun a b=>ltN a b=true)→q.Nodup:=fun hq=>hq.imp fun {a b} h e=>by subst e;rw [qbI.irrefl] at h;cases h
 have le:∀ {q:List (List UInt8)},(q.Pairwise fun a b=>ltN a b=true)→q.Pairwise (fun a b=>ltN b a=false):=fun hq=>hq.imp fun {a b} h=>by
  cases hc:ltN b a with
  | false=>rfl
  | true=>
   have:=qbI.trans _ _ _ h hc;rw [qbI.irrefl] at this;cases this
 exact qdP l r ((List.perm_ext_iff_of_nodup (nd hl) (nd hr)).2 h) (le hl) (le hr)
theorem qjM:chk (cq awV)=0:=by decide +kernel
theorem qlw:qkW (cq awV)=[123,34,100,101,115,99,114,105,112,116,105,111,110,34,58,110,117,108,108,44,34,105,115,83,117,98,115,99,114,105,98,101,100,34,58,116,114,117,101,44,34,110,97,109,101,34,58,34,97,34,44,34,115,111,114,116,79,114,100,101,114,34,58,48,125]:=by
 unfold qkW;rw [if_pos qjM]
 decide +kernel
theorem qmh:cq awV=mpV (cz,[qe4,qf7,txV [97],qgm]):=by kernel_rfl
theorem qab (v:V) (h:v=awV∨v=awW∨v=cq awV):wfV v∧szU v≤1000∧bC v:=by
 rcases h with rfl | rfl | rfl
 ·refine ⟨?_,?_,?_⟩
  ·simp [awV,mpV,nmV,txV,wfV,wfL];decide
  ·simp [awV,mpV,nmV,txV,szU,cC]
  ·simp [awV,mpV,nmV,txV,bC,cD]
 ·refine ⟨?_,?_,?_⟩
  ·simp [awW,mpV,nmV,txV,wfV,wfL];decide
  ·simp [awW,mpV,nmV,txV,szU,cC]
  ·simp [awW,mpV,nmV,txV,bC,cD]
 ·rw [qmh];refine ⟨?_,?_,?_⟩
  ·simp [cz,qe4,qf7,qgm,mpV,nmV,txV,wfV,wfL];decide
  ·simp [cz,aK,bu,ah,bt,qe4,qf7,qgm,mpV,nmV,txV,szU,cC]
  ·simp [cz,qe4,qf7,qgm,mpV,nmV,txV,bC,cD]
