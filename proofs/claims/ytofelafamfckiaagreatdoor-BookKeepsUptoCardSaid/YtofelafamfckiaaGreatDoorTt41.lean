/- Merged: BkAw0. -/
import Derived.Test.YtofelafamfckiaaGreatDoorTt29
import Derived.Test.YtofelafamfckiaaGreatDoorTt40
namespace Go.Proofs.YtofelafamfckiaaGreatDoor
namespace Bk
open Go.Proofs Utf Sc Re Tr Em
open Cd (mem fst qcn)
set_option linter.unusedSimpArgs false
def awV:V:=mpV ([[110,97,109,101]],[txV [97]])
def awW:V:=mpV ([[115,111,114,116,79,114,100,101,114],[120]],[nmV (-1),nmV 1])
theorem qke:cp [123,34,110,97,109,101,34,58,34,97,34,125] =
 ([(1,0,[123],0),(4,0,[110,97,109,101],1),(1,0,[58],7),(4,0,[97],8),(1,0,[125],11)],0,0):=by decide +kernel
theorem qkR:rdV [123,34,110,97,109,101,34,58,34,97,34,125]=(awV,0,0):=
 qh3 qke (by simp [rdT,cA,pV,pL,pM,tk,isM,qbM,Rs.map,txV,nmV,wdV,lsV,mpV,bN,bD,V0,awV,awW])
theorem qjR:cp [123,34,115,111,114,116,79,114,100,101,114,34,58,45,49,44,34,120,34,58,49,125] =
 ([(1,0,[123],0),(4,0,[115,111,114,116,79,114,100,101,114],1),(1,0,[58],12),(3, -1,[],13),(1,0,[44],15),(4,0,[120],16),(1,0,[58],19),(3,1,[],20),(1,0,[125],21)],0,0):=by decide +kernel
theorem qkB:rdV [123,34,115,111,114,116,79,114,100,101,114,34,58,45,49,44,34,120,34,58,49,125]=(awW,0,0):=
 qh3 qjR (by simp [rdT,cA,pV,pL,pM,tk,isM,qbM,Rs.map,txV,nmV,wdV,lsV,mpV,bN,bD,V0,awV,awW])
theorem qh7:∀ n,cL awV n=false:=(qcx awV).2 ⟨rfl,(fun m hm=>List.all_eq_true.1 (show ((mem awV).all fun m=>aU m.1 m.2)=true by decide +kernel) m hm),(by decide +kernel)⟩
theorem qip {v:V} (hk:v.k=6) {n:List UInt8} (h:cL v n=true):n∈v.ns++[az]:=by
 rw [List.mem_append];rcases (qaS hk n).1 h with ⟨m,h1,h2, -⟩ | ⟨rfl, -⟩
 ·exact .inl (h2▸qcn h1)
 ·exact .inr (by simp)
theorem qkZ:(awW.ns++[az]).all (fun n=>decide (cL awW n=true↔n∈[[110,97,109,101],[115,111,114,116,79,114,100,101,114],[120]]))=true:=by decide +kernel
theorem qjV : [[110,97,109,101],[115,111,114,116,79,114,100,101,114],[120]].all (fun n=>cL awW n)=true:=by decide +kernel
theorem qlb (n:List UInt8):cL awW n=true↔n∈[[110,97,109,101],[115,111,114,116,79,114,100,101,114],[120]]:=by
 constructor
 ·intro h;have:=List.all_eq_true.1 qkZ n (qip rfl h);exact (of_decide_eq_true this).1 h
 ·intro h;exact List.all_eq_true.1 qjV n h
theorem qhz {l r:List (List UInt8)} (hl:l.Pairwise fun a b=>ltN a b=true) (hr:r.Pairwise fun a b=>ltN a b=true) (h:∀ n,n∈l↔n∈r):l=r:=by
 have nd:∀ {q:List (List UInt8)},(q.Pairwise fun a b=>ltN a b=true)→q.Nodup:=fun hq=>hq.imp fun {a b} h e=>by subst e;rw [qd4.irrefl] at h;cases h
 have le:∀ {q:List (List UInt8)},(q.Pairwise fun a b=>ltN a b=true)→q.Pairwise (fun a b=>ltN b a=false):=fun hq=>hq.imp fun {a b} h=>by
  cases hc:ltN b a with
  | false=>rfl
  | true=>
   have:=qd4.trans _ _ _ h hc;rw [qd4.irrefl] at this;cases this
 exact qdI l r ((List.perm_ext_iff_of_nodup (nd hl) (nd hr)).2 h) (le hl) (le hr)
theorem qja:chk (qas awV)=0:=by decide +kernel
theorem qlx:qhE (qas awV)=[123,34,100,101,115,99,114,105,112,116,105,111,110,34,58,110,117,108,108,44,34,105,115,83,117,98,115,99,114,105,98,101,100,34,58,116,114,117,101,44,34,110,97,109,101,34,58,34,97,34,44,34,115,111,114,116,79,114,100,101,114,34,58,48,125]:=by
 unfold qhE;rw [if_pos qja]
 decide +kernel
theorem qkM:qas awV=mpV (qbf,[qhm,qiY,txV [97],qiW]):=by kernel_rfl
theorem qab (v:V) (h:v=awV∨v=awW∨v=qas awV):wfV v∧szU v≤1000∧aZ v:=by
 rcases h with rfl | rfl | rfl
 ·refine ⟨?_,?_,?_⟩
  ·simp [awV,mpV,nmV,txV,wfV,wfL];decide
  ·simp [awV,mpV,nmV,txV,szU,bc]
  ·simp [awV,mpV,nmV,txV,aZ,bo]
 ·refine ⟨?_,?_,?_⟩
  ·simp [awW,mpV,nmV,txV,wfV,wfL];decide
  ·simp [awW,mpV,nmV,txV,szU,bc]
  ·simp [awW,mpV,nmV,txV,aZ,bo]
 ·rw [qkM];refine ⟨?_,?_,?_⟩
  ·simp [qbf,qhm,qiY,qiW,mpV,nmV,txV,wfV,wfL];decide
  ·simp [qbf,bf,b8,az,bX,qhm,qiY,qiW,mpV,nmV,txV,szU,bc]
  ·simp [qbf,qhm,qiY,qiW,mpV,nmV,txV,aZ,bo]
