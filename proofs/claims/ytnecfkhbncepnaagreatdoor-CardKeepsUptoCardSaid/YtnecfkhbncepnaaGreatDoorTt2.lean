/- Merged: WoPl2 SmPl StPl3 StT. -/
import Derived.Test.YtnecfkhbncepnaaGreatDoorTt1
import Derived.Lib.Bytealg
namespace Go.Proofs.YtnecfkhbncepnaaGreatDoor
namespace Wo
open Go.RowKit Utf Nu
def hdP (c:UInt8):List UInt8→List UInt8
 | []=>[]
 | x::r=>if x=c then [] else x::hdP c r
def tlP (c:UInt8):List UInt8→List UInt8
 | []=>[]
 | x::r=>if x=c then r else tlP c r
theorem qrp (c:UInt8):∀ l,c∉hdP c l
 | []=>by simp [hdP]
 | x::r=>by
  rw [hdP];split
  ·simp
  ·rename_i h
   intro hm;rcases List.mem_cons.1 hm with e | hm
   ·exact h e.symm
   ·exact qrp c r hm
theorem qdu {c:UInt8}:∀ {l:List UInt8},c∈l→l=hdP c l++c::tlP c l
 | x::r,h=>by
  rw [hdP,tlP];by_cases hx:x=c
  ·rw [if_pos hx,if_pos hx,hx];rfl
  ·rw [if_neg hx,if_neg hx,List.cons_append];rcases List.mem_cons.1 h with e | h
   ·exact absurd e.symm hx
   ·rw [←qdu h]
theorem qcK {c:UInt8}:∀ {l:List UInt8},c∉l→hdP c l=l
 | [],_=>rfl
 | x::r,h=>by rw [hdP,if_neg (fun e=>h (by rw [e];exact List.mem_cons_self)),qcK (fun h2=>h (List.mem_cons_of_mem _ h2))]
theorem qbv {c:UInt8}:∀ {l:List UInt8},c∉l→tlP c l=[]
 | [],_=>rfl
 | x::r,h=>by rw [tlP,if_neg (fun e=>h (by rw [e];exact List.mem_cons_self)),qbv (fun h2=>h (List.mem_cons_of_mem _ h2))]
theorem qdv {c:UInt8} {l:List UInt8} (h:c∈l):spl c l=hdP c l::spl c (tlP c l):=by
 conv=>lhs;rw [qdu h]
 rw [qkM,qcW (qrp c l)];rfl
theorem qbQ {c:UInt8} {l:List UInt8} (h:c∈l):(hdP c l).length+1+(tlP c l).length=l.length:=by
 conv=>rhs;rw [qdu h]
 simp;omega
theorem qtR (c:UInt8) (l:List UInt8):(hdP c l).length≤l.length:=by
 by_cases h:c∈l
 ·have:=qbQ h;omega
 ·rw [qcK h];exact Nat.le_refl _
theorem qnW (c:UInt8) (l:List UInt8):(tlP c l).length≤l.length:=by
 by_cases h:c∈l
 ·have:=qbQ h;omega
 ·rw [qbv h];exact Nat.zero_le _
theorem qcU (c:UInt8):∀ l:List UInt8,(Lib.indexByte l c = -1∧c∉l)∨∃ i:Nat,Lib.indexByte l c=i∧c∈l∧i+1≤l.length∧hdP c l=l.take i∧tlP c l=l.drop (i+1)
 | []=> .inl ⟨rfl,by simp⟩
 | x::r=>by
  unfold Lib.indexByte;by_cases hx:x=c
  ·right
   subst hx;exact ⟨0,by simp,by simp,by simp,by rw [hdP,if_pos rfl];rfl,by rw [tlP,if_pos rfl];rfl⟩
  ·have hx':(x==c)=false:=beq_eq_false_iff_ne.2 hx;rw [hx',hdP,tlP,if_neg hx,if_neg hx];rcases qcU c r with ⟨h1,h2⟩ | ⟨i,h1,h2,h3,h4,h5⟩
   ·left
    rw [h1];refine ⟨rfl,fun hm=>?_⟩;rcases List.mem_cons.1 hm with e | hm
    ·exact hx e.symm
    ·exact h2 hm
   ·right
    have:((i:Int)== -1)=false:=beq_eq_false_iff_ne.2 (by omega);rw [h1,this];exact ⟨i+1,by simp,List.mem_cons_of_mem _ h2,by simp;omega,by rw [h4];rfl,by rw [h5];rfl⟩
theorem qgg (l:List UInt8) (c:UInt8):decide (0≤Lib.indexByte l c)=decide (c∈l):=by
 rcases qcU c l with ⟨h1,h2⟩ | ⟨i,h1,h2,_⟩
 ·rw [h1,zF h2];rfl
 ·rw [h1,zT h2];exact zT (by omega)
def dc (f g:Int→Bool):List UInt8→Bool
 | []=>false
 | x::r=>f (x.toNat:Int)&&r.all fun y=>g (y.toNat:Int)
def alB (b:Int):Bool:=ltr b || isD b
theorem qsE {b:Int} (h:ltr b=true):alB b=true:=by unfold alB;rw [h];rfl
theorem qtI {b:Int} (h:alB b=true):nmB b=true:=by
 unfold alB at h;unfold nmB;rw [h];rfl
theorem qtc {b:Int} (h:alB b=true):qat b=true:=by
 unfold alB at h;unfold qat;rw [h];rfl
theorem qko {b:Int} (h:qat b=true):eY b=true:=by
 unfold qat ltr isD at h;unfold eY;simp only [Bool.or_eq_true,decide_eq_true_eq] at h;simp only [Bool.and_eq_true,Bool.not_eq_true',decide_eq_true_eq,decide_eq_false_iff_not];omega
theorem qkg {b:Int} (h:ltr b=true):qat b=true:=qtc (qsE h)
theorem qrQ:nmB 47=false:=by decide
theorem qpN:eY 58=true:=by decide
theorem qub (l:List UInt8):(decide (l.length≤127)&&dc alB nmB l)=nmS l:=by
 unfold nmS;cases l with
 | nil=>rfl
 | cons x r=>
  show (decide ((x::r).length≤127)&&(alB (x.toNat:Int)&&r.all fun y=>nmB (y.toNat:Int)))=(decide (1≤(x::r).length∧(x::r).length≤127)&&alB (byt (x::r) 0)&&(nmB (x.toNat:Int)&&r.all fun y=>nmB (y.toNat:Int)))
  rw [d6,Bool.eq_iff_iff];simp only [Bool.and_eq_true,decide_eq_true_eq,List.length_cons];constructor
  ·rintro ⟨h1,h2,h3⟩;exact ⟨⟨⟨by omega,h1⟩,h2⟩,qtI h2,h3⟩
  ·rintro ⟨⟨⟨h0,h1⟩,h2⟩,_,h3⟩;exact ⟨h1,h2,h3⟩
theorem qtK {l:List UInt8} (h:nmS l=true):(47:UInt8)∉l:=by
 unfold nmS at h;rw [Bool.and_eq_true,List.all_eq_true] at h;intro hm;have:=h.2 _ hm;rw [show (((47:UInt8).toNat:Nat):Int)=47 from rfl,qrQ] at this;cases this
theorem qn3 (l:List UInt8):(nmS (hdP 47 l)&&nmS (tlP 47 l))=dG l:=by
 unfold dG;by_cases h:(47:UInt8)∈l
 ·rw [qdv h];by_cases h2:(47:UInt8)∈tlP 47 l
  ·rw [qdv h2];have h3:nmS (tlP 47 l)=false:=Bool.eq_false_iff.2 fun e=>qtK e h2;rw [h3,Bool.and_false];cases hs:spl 47 (tlP 47 (tlP 47 l)) with
   | nil=>exact absurd hs (qpg _ _)
   | cons a b=>rfl
  ·rw [qcW h2]
 ·rw [qcW h,qbv h];show (_&&false)=false;rw [Bool.and_false]
def tgS (first:Bool) (l:List UInt8):Bool:=if first then qmy l else qiD l
def qbe (first:Bool) (l:List UInt8):Bool:=if first then eV l else (spl 45 l).all qiD
theorem qkt {first:Bool} {l:List UInt8} (h:(45:UInt8)∈l):qbe first l=(tgS first (hdP 45 l)&&qbe false (tlP 45 l)):=by
 unfold qbe tgS eV;rw [qdv h];cases first <;> rfl
theorem qob {first:Bool} {l:List UInt8} (h:(45:UInt8)∉l):qbe first l=tgS first l:=by
 unfold qbe tgS eV;rw [qcW h];cases first
 ·show (qiD l&&true)=qiD l;rw [Bool.and_true]
 ·show (qmy l&&true)=qmy l;rw [Bool.and_true]
theorem qfO {f:Int→Bool} {l:List UInt8} (h:l≠[]):dc f f l=l.all fun y=>f (y.toNat:Int):=by
 cases l with
 | nil=>exact absurd rfl h
 | cons x r=>rfl
theorem qtn (l:List UInt8):(decide (1≤l.length)&&decide (l.length≤8)&&dc alB alB l)=qiD l:=by
 unfold qiD;by_cases h:l=[]
 ·subst h;rfl
 ·rw [qfO h,Bool.decide_and];rfl
theorem qq8 (l:List UInt8):(decide (2≤l.length)&&decide (l.length≤8)&&dc ltr ltr l)=qmy l:=by
 unfold qmy;by_cases h:l=[]
 ·subst h;rfl
 ·rw [qfO h,Bool.decide_and]
theorem qjy:∀ {l:List UInt8},(58:UInt8)∈l→qe7 l=(hdP 58 l).length
 | x::r,h=>by
  unfold qe7;rw [List.findIdx_cons,hdP];by_cases hx:x=58
  ·rw [if_pos hx,beq_iff_eq.2 hx];rfl
  ·rw [if_neg hx,beq_eq_false_iff_ne.2 hx];rcases List.mem_cons.1 h with e | h
   ·exact absurd e.symm hx
   ·have:=qjy h;unfold qe7 at this;show (List.findIdx (fun x=>x==58) r)+1=_;rw [this];rfl
theorem qoy {l:List UInt8} (h:(58:UInt8)∉l):qe7 l=l.length:=by
 unfold qe7;exact List.findIdx_eq_length.2 fun x hx=>beq_eq_false_iff_ne.2 fun e=>h (by rw [←e];exact hx)
theorem qrX (l:List UInt8):(decide (hdP 58 l≠[])&&decide (tlP 58 l≠[]))=qjJ l:=by
 unfold qjJ;by_cases h:(58:UInt8)∈l
 ·have h1:=qbQ h;rw [qjy h,←Bool.decide_and];have e1:hdP 58 l≠[]↔1≤(hdP 58 l).length:=List.length_pos_iff.symm;have e2:tlP 58 l≠[]↔1≤(tlP 58 l).length:=List.length_pos_iff.symm;exact decide_eq_decide.2 (by rw [e1,e2];omega)
 ·rw [qbv h,qoy h];rw [zF (show ¬(([]:List UInt8)≠[]) from fun h=>h rfl),Bool.and_false];exact (zF (by omega)).symm
theorem qso (l:List UInt8):(dc ltr qat (hdP 58 l)&&dc eY eY (tlP 58 l))=qdS l:=by
 unfold qdS;by_cases h:(58:UInt8)∈l
 ·have h1:=qbQ h;have hl:=qdu h;rw [qjy h];generalize hdP 58 l=a at *;generalize tlP 58 l=b at *;subst hl;cases a with
  | nil=>rfl
  | cons x r=>
   have e1:((x::r)++58::b).take (x::r).length=x::r:=List.take_left;have e2:(58::b).all (fun x=>eY (x.toNat:Int))=b.all (fun x=>eY (x.toNat:Int)):=by
    rw [List.all_cons];show (eY 58&&_)=_;rw [qpN,Bool.true_and]
   have e3:(x::r).all (fun x=>qat (x.toNat:Int))=(qat (x.toNat:Int)&&r.all fun x=>qat (x.toNat:Int)):=rfl;rw [e1,e3,show byt (x::r++58::b) 0=(x.toNat:Int) from rfl,List.all_append,e2];cases b with
   | nil=>rw [zF (by simp)];show (_&&false)=_;rw [Bool.and_false];rfl
   | cons y t=>
    rw [zT (by simp),Bool.eq_iff_iff];show ((ltr (x.toNat:Int)&&r.all fun y=>qat (y.toNat:Int))&&(eY (y.toNat:Int)&&t.all fun y=>eY (y.toNat:Int)))=true↔(((true&&ltr (x.toNat:Int))&&(qat (x.toNat:Int)&&r.all fun y=>qat (y.toNat:Int)))&&((eY (x.toNat:Int)&&r.all fun y=>eY (y.toNat:Int))&&(eY (y.toNat:Int)&&t.all fun y=>eY (y.toNat:Int))))=true;simp only [Bool.and_eq_true,List.all_eq_true];constructor
    ·rintro ⟨⟨p1,p2⟩,p3,p4⟩;exact ⟨⟨⟨trivial,p1⟩,qkg p1,p2⟩,⟨qko (qkg p1),fun z hz=>qko (p2 z hz)⟩,p3,p4⟩
    ·rintro ⟨⟨⟨_,p1⟩,_,p2⟩,_,p3,p4⟩;exact ⟨⟨p1,p2⟩,p3,p4⟩
 ·rw [qbv h,qoy h,zF (by omega)];show (_&&false)=_;rw [Bool.and_false];rfl
theorem qoU {l s:List UInt8} (hs:s≠[]) (h:(32:UInt8)∈l):inS l s=(decide (hdP 32 l=s) || inS (tlP 32 l) s):=by
 unfold inS;rw [qdv h,zT hs,Bool.true_and,Bool.true_and,List.contains_cons]
 congr 1
 rw [Bool.eq_iff_iff,beq_iff_eq,decide_eq_true_eq];exact eq_comm
theorem qre {l s:List UInt8} (hs:s≠[]) (h:(32:UInt8)∉l):inS l s=decide (hdP 32 l=s):=by
 unfold inS;rw [qcW h,qcK h,zT hs,Bool.true_and,List.contains_cons,Bool.eq_iff_iff,Bool.or_eq_true,beq_iff_eq,decide_eq_true_eq];constructor
 ·rintro (h1 | h1)
  ·exact h1.symm
  ·cases h1
 ·exact fun h1=> .inl h1.symm
end Wo
namespace Sm
open Go.RowKit Utf Nu Wo
structure Pr where
 nm:List UInt8
 fm:Int
 ar:List UInt8
 mu:Bool
 df:List UInt8
deriving DecidableEq
def Pr.zero:Pr:=⟨[],0,[],false,[]⟩
def qrl (a:Int):List UInt8→Int
 | []=>a
 | c::r=>qrl (a*10+(c.toNat:Int)-48) r
def qkl:List (List UInt8)→List UInt8→Bool→Option (List UInt8×Bool×List UInt8)
 | [],ar,mu=>some (ar,mu,[])
 | q::r,ar,mu=>
  if q=[33] then qkl r ar true
  else if q=[61] then (match r with | []=>none | d::_=>some (ar,mu,d))
  else if ar=[] then qkl r q mu
  else qkl r (ar++[32]++q) mu
def qtu:List (List UInt8)→Option Pr
 | nm::fm::r=>if fm.length≤3 then (qkl r [] false).map fun x=>⟨nm,qrl 0 fm,x.1,x.2.1,x.2.2⟩ else none
 | _=>none
def nm0:List UInt8:=[67,97,114,100]
def nm1:List UInt8:=[65,100,100,114,101,115,115]
def nm2:List UInt8:=[65,100,100,114,101,115,115,67,111,109,112,111,110,101,110,116]
def nm3:List UInt8:=[65,110,110,105,118,101,114,115,97,114,121]
def nm4:List UInt8:=[69,109,97,105,108,65,100,100,114,101,115,115]
def nm5:List UInt8:=[76,97,110,103,117,97,103,101,80,114,101,102]
def nm6:List UInt8:=[76,105,110,107]
def nm7:List UInt8:=[77,101,100,105,97]
def nm8:List UInt8:=[78,97,109,101]
def nm9:List UInt8:=[78,97,109,101,67,111,109,112,111,110,101,110,116]
def qhC:List UInt8:=[78,105,99,107,110,97,109,101]
def qh6:List UInt8:=[78,111,116,101]
def qhV:List UInt8:=[79,110,108,105,110,101,83,101,114,118,105,99,101]
def qik:List UInt8:=[79,114,103,85,110,105,116]
def qh2:List UInt8:=[79,114,103,97,110,105,122,97,116,105,111,110]
def qdT:List UInt8:=[80,97,114,116,105,97,108,68,97,116,101]
def qir:List UInt8:=[80,104,111,110,101]
def qhn:List UInt8:=[82,101,108,97,116,105,111,110]
def dF:List UInt8:=[84,105,109,101,115,116,97,109,112]
def qit:List UInt8:=[84,105,116,108,101]
def ln0:List UInt8:=[97,100,100,114,101,115,115,101,115,32,49,52,32,65,100,100,114,101,115,115,59,97,110,110,105,118,101,114,115,97,114,105,101,115,32,49,52,32,65,110,110,105,118,101,114,115,97,114,121,59,99,114,101,97,116,101,100,32,55,59,101,109,97,105,108,115,32,49,52,32,69,109,97,105,108,65,100,100,114,101,115,115,59,107,101,121,119,111,114,100,115,32,49,54,59,107,105,110,100,32,49,49,32,97,112,112,108,105,99,97,116,105,111,110,32,100,101,118,105,99,101,32,103,114,111,117,112,32,105,110,100,105,118,105,100,117,97,108,32,108,111,99,97,116,105,111,110,32,111,114,103,32,61,32,105,110,100,105,118,105,100,117,97,108,59,108,97,110,103,117,97,103,101,32,49,48,59,108,105,110,107,115,32,49,52,32,76,105,110,107,59,109,101,100,105,97,32,49,52,32,77,101,100,105,97,59,109,101,109,98,101,114,115,32,49,54,59,110,97,109,101,32,49,50,32,78,97,109,101,59,110,105,99,107,110,97,109,101,115,32,49,52,32,78,105,99,107,110,97,109,101,59,110,111,116,101,115,32,49,52,32,78,111,116,101,59,111,110,108,105,110,101,83,101,114,118,105,99,101,115,32,49,52,32,79,110,108,105,110,101,83,101,114,118,105,99,101,59,111,114,103,97,110,105,122,97,116,105,111,110,115,32,49,52,32,79,114,103,97,110,105,122,97,116,105,111,110,59,112,104,111,110,101,115,32,49,52,32,80,104,111,110,101,59,112,114,101,102,101,114,114,101,100,76,97,110,103,117,97,103,101,115,32,49,52,32,76,97,110,103,117,97,103,101,80,114,101,102,59,112,114,111,100,73,100,32,49,59,114,101,108,97,116,101,100,84,111,32,49,53,32,82,101,108,97,116,105,111,110,59,116,105,116,108,101,115,32,49,52,32,84,105,116,108,101,59,117,105,100,32,50,32,33,59,117,112,100,97,116,101,100,32,55,59,118,101,114,115,105,111,110,32,49,49,32,49,46,48,32,33]
def ln1:List UInt8:=[99,111,109,112,111,110,101,110,116,115,32,49,51,32,65,100,100,114,101,115,115,67,111,109,112,111,110,101,110,116,59,99,111,110,116,101,120,116,115,32,49,55,32,98,105,108,108,105,110,103,32,100,101,108,105,118,101,114,121,32,112,114,105,118,97,116,101,32,119,111,114,107,59,99,111,111,114,100,105,110,97,116,101,115,32,56,59,99,111,117,110,116,114,121,67,111,100,101,32,49,59,100,101,102,97,117,108,116,83,101,112,97,114,97,116,111,114,32,49,59,102,117,108,108,32,49,59,105,115,79,114,100,101,114,101,100,32,51,32,61,32,102,97,108,115,101,59,112,114,101,102,32,53,59,116,105,109,101,90,111,110,101,32,49]
def ln2:List UInt8:=[107,105,110,100,32,49,49,32,97,112,97,114,116,109,101,110,116,32,98,108,111,99,107,32,98,117,105,108,100,105,110,103,32,99,111,117,110,116,114,121,32,100,105,114,101,99,116,105,111,110,32,100,105,115,116,114,105,99,116,32,102,108,111,111,114,32,108,97,110,100,109,97,114,107,32,108,111,99,97,108,105,116,121,32,110,97,109,101,32,110,117,109,98,101,114,32,112,111,115,116,79,102,102,105,99,101,66,111,120,32,112,111,115,116,99,111,100,101,32,114,101,103,105,111,110,32,114,111,111,109,32,115,101,112,97,114,97,116,111,114,32,115,117,98,100,105,115,116,114,105,99,116,32,33,59,118,97,108,117,101,32,49,32,33]
def ln3:List UInt8:=[100,97,116,101,32,49,56,32,33,59,107,105,110,100,32,49,49,32,98,105,114,116,104,32,100,101,97,116,104,32,119,101,100,100,105,110,103,32,33]
def ln4:List UInt8:=[97,100,100,114,101,115,115,32,49,32,33,59,99,111,110,116,101,120,116,115,32,49,55,32,112,114,105,118,97,116,101,32,119,111,114,107,59,108,97,98,101,108,32,49,59,112,114,101,102,32,53]
def ln5:List UInt8:=[99,111,110,116,101,120,116,115,32,49,55,32,112,114,105,118,97,116,101,32,119,111,114,107,59,108,97,110,103,117,97,103,101,32,49,48,32,33,59,112,114,101,102,32,53]
def ln6:List UInt8:=[99,111,110,116,101,120,116,115,32,49,55,32,112,114,105,118,97,116,101,32,119,111,114,107,59,107,105,110,100,32,49,49,32,99,111,110,116,97,99,116,59,108,97,98,101,108,32,49,59,109,101,100,105,97,84,121,112,101,32,57,59,112,114,101,102,32,53,59,117,114,105,32,56,32,33]
def ln7:List UInt8:=[99,111,110,116,101,120,116,115,32,49,55,32,112,114,105,118,97,116,101,32,119,111,114,107,59,107,105,110,100,32,49,49,32,108,111,103,111,32,112,104,111,116,111,32,115,111,117,110,100,32,33,59,108,97,98,101,108,32,49,59,109,101,100,105,97,84,121,112,101,32,57,59,112,114,101,102,32,53,59,117,114,105,32,56,32,33]
def ln8:List UInt8:=[99,111,109,112,111,110,101,110,116,115,32,49,51,32,78,97,109,101,67,111,109,112,111,110,101,110,116,59,100,101,102,97,117,108,116,83,101,112,97,114,97,116,111,114,32,49,59,102,117,108,108,32,49,59,105,115,79,114,100,101,114,101,100,32,51,32,61,32,102,97,108,115,101]
def ln9:List UInt8:=[107,105,110,100,32,49,49,32,99,114,101,100,101,110,116,105,97,108,32,103,101,110,101,114,97,116,105,111,110,32,103,105,118,101,110,32,103,105,118,101,110,50,32,115,101,112,97,114,97,116,111,114,32,115,117,114,110,97,109,101,32,115,117,114,110,97,109,101,50,32,116,105,116,108,101,32,33,59,118,97,108,117,101,32,49,32,33]
def qut:List UInt8:=[99,111,110,116,101,120,116,115,32,49,55,32,112,114,105,118,97,116,101,32,119,111,114,107,59,110,97,109,101,32,49,32,33,59,112,114,101,102,32,53]
def quy:List UInt8:=[99,114,101,97,116,101,100,32,55,59,110,111,116,101,32,49,32,33]
def qul:List UInt8:=[99,111,110,116,101,120,116,115,32,49,55,32,112,114,105,118,97,116,101,32,119,111,114,107,59,108,97,98,101,108,32,49,59,112,114,101,102,32,53,59,115,101,114,118,105,99,101,32,49,59,117,114,105,32,56,59,117,115,101,114,32,49]
def qun:List UInt8:=[110,97,109,101,32,49,32,33,59,115,111,114,116,65,115,32,49]
def quC:List UInt8:=[99,111,110,116,101,120,116,115,32,49,55,32,112,114,105,118,97,116,101,32,119,111,114,107,59,110,97,109,101,32,49,59,115,111,114,116,65,115,32,49,59,117,110,105,116,115,32,49,51,32,79,114,103,85,110,105,116]
def qup:List UInt8:=[100,97,121,32,52,59,109,111,110,116,104,32,52,59,121,101,97,114,32,52]
def quj:List UInt8:=[99,111,110,116,101,120,116,115,32,49,55,32,112,114,105,118,97,116,101,32,119,111,114,107,59,102,101,97,116,117,114,101,115,32,49,55,32,102,97,120,32,109,97,105,110,45,110,117,109,98,101,114,32,109,111,98,105,108,101,32,112,97,103,101,114,32,116,101,120,116,32,116,101,120,116,112,104,111,110,101,32,118,105,100,101,111,32,118,111,105,99,101,59,108,97,98,101,108,32,49,59,110,117,109,98,101,114,32,49,32,33,59,112,114,101,102,32,53]
def quq:List UInt8:=[114,101,108,97,116,105,111,110,32,49,55,32,97,99,113,117,97,105,110,116,97,110,99,101,32,97,103,101,110,116,32,99,104,105,108,100,32,99,111,45,114,101,115,105,100,101,110,116,32,99,111,45,119,111,114,107,101,114,32,99,111,108,108,101,97,103,117,101,32,99,111,110,116,97,99,116,32,99,114,117,115,104,32,100,97,116,101,32,101,109,101,114,103,101,110,99,121,32,102,114,105,101,110,100,32,107,105,110,32,109,101,32,109,101,116,32,109,117,115,101,32,110,101,105,103,104,98,111,114,32,112,97,114,101,110,116,32,115,105,98,108,105,110,103,32,115,112,111,117,115,101,32,115,119,101,101,116,104,101,97,114,116]
def quk:List UInt8:=[117,116,99,32,55,32,33]
def quA:List UInt8:=[107,105,110,100,32,49,49,32,114,111,108,101,32,116,105,116,108,101,32,61,32,116,105,116,108,101,59,110,97,109,101,32,49,32,33,59,111,114,103,97,110,105,122,97,116,105,111,110,73,100,32,54]
def qcT:List (List UInt8):=[nm0,nm1,nm2,nm3,nm4,nm5,nm6,nm7,nm8,nm9,qhC,qh6,qhV,qik,qh2,qdT,qir,qhn,dF,qit]
def qt8:List (List UInt8×List UInt8):=[(nm0,ln0),(nm1,ln1),(nm2,ln2),(nm3,ln3),(nm4,ln4),(nm5,ln5),(nm6,ln6),(nm7,ln7),(nm8,ln8),(nm9,ln9),(qhC,qut),(qh6,quy),(qhV,qul),(qik,qun),(qh2,quC),(qdT,qup),(qir,quj),(qhn,quq),(dF,quk),(qit,quA)]
def qrC (l:List UInt8):List (List UInt8×List UInt8)→List UInt8
 | []=>[]
 | x::r=>if l=x.1 then x.2 else qrC l r
def qqk (l:List UInt8):List UInt8:=qrC l qt8
def quh (t:List UInt8):List Pr:=(spl 59 t).map fun q=>(qtu (spl 32 q)).getD Pr.zero
def af (l:List UInt8):List Pr:=if qqk l=[] then [] else quh (qqk l)
def cX (ps:List Pr) (n:List UInt8):Option Pr:=ps.find? fun p=>decide (p.nm=n)
theorem qoK {l:List UInt8} (h0:l≠nm0) (h1:l≠nm1) (h2:l≠nm2) (h3:l≠nm3) (h4:l≠nm4) (h5:l≠nm5) (h6:l≠nm6) (h7:l≠nm7) (h8:l≠nm8) (h9:l≠nm9) (h10:l≠qhC) (h11:l≠qh6) (h12:l≠qhV) (h13:l≠qik) (h14:l≠qh2) (h15:l≠qdT) (h16:l≠qir) (h17:l≠qhn) (h18:l≠dF) (h19:l≠qit):qqk l=[]:=by
 unfold qqk qt8;simp only [qrC,if_neg h0,if_neg h1,if_neg h2,if_neg h3,if_neg h4,if_neg h5,if_neg h6,if_neg h7,if_neg h8,if_neg h9,if_neg h10,if_neg h11,if_neg h12,if_neg h13,if_neg h14,if_neg h15,if_neg h16,if_neg h17,if_neg h18,if_neg h19]
end Sm
namespace St
open Go.RowKit Utf Nu
def qtJ (l:List UInt8) (i:Nat):Nat:=if 20+i<l.length-1 then (byt l (20+i)-48).toNat else 0
def qtT (f:Nat→Nat):Nat→Nat
 | 0=>0
 | k+1=>qtT f k*10+f k
def qro (l:List UInt8):Nat:=qtT (qtJ l) 9
def Erl (a b:List UInt8):Prop:=qhX a<qhX b∨(qhX a=qhX b∧qro a<qro b)
instance (a b:List UInt8):Decidable (Erl a b):=by unfold Erl;infer_instance
end St
namespace St
open Go.RowKit Utf
def mdl (k:Nat):Int:=[31,28,31,30,31,30,31,31,30,31,30,31].getD k 0
def plc (k:Nat):Int:=[0,4,5,7,8,10,11,13,14,16,17,19].getD k 0
def Tab (w:World):Prop:=(∀ k,k<12→w.cell? ⟨2,k,none⟩=some (.int .i64 (mdl k)))∧∀ k,k<12→w.cell? ⟨1,k,none⟩=some (.int .i64 (plc k))
theorem Tab.lt {w:World} (h:Tab w):2<w.heap.size∧1<w.heap.size:=
 ⟨qgR (h.1 0 (by omega)),qgR (h.2 0 (by omega))⟩
theorem Tab.below {w w':World} (h:Tab w) (hb:Below w.heap.size w w'):Tab w':=
 ⟨fun k hk=>(hb.cell h.lt.1).trans (h.1 k hk),fun k hk=>(hb.cell h.lt.2).trans (h.2 k hk)⟩
theorem qni (y m:Int) (h1:1≤m) (h2:m≤12) (h:¬(m=2∧qdq y=true)):mdl (m-1).toNat=b7 y m:=by
 have key:m=1∨m=2∨m=3∨m=4∨m=5∨m=6∨m=7∨m=8∨m=9∨m=10∨m=11∨m=12:=by omega
 rcases key with rfl | rfl | rfl | rfl | rfl | rfl | rfl | rfl | rfl | rfl | rfl | rfl
 ·rfl
 ·have:¬qdq y=true:=fun h3=>h ⟨rfl,h3⟩;unfold b7;rw [if_pos rfl,if_neg this];rfl
 all_goals rfl
