/- Merged: Base NuPl WoPl IdPl StPl StPl2. -/
import Derived.Test.YtofelafamfckiaaGreatDoorTtMv
import Derived.Test.YtofelafamfckiaaGreatDoorProg
import Derived.Below
import Derived.Laws.OwnMore
import Derived.Laws.BytesArg
import Derived.Deep.Draws
import Derived.Lib.UnsafeStr
import Derived.Lib.Hide
import Derived.WalkKit
import Derived.Laws.AppendOwn
import Derived.Laws.BytesString
import Derived.Lib.Strings
import Derived.OpenShut
namespace Go.Proofs.YtofelafamfckiaaGreatDoor
section
open Go.RowKit
theorem qep (a:Addr) (n:Nat):(a.add n).block=a.block:=by unfold Addr.add;split <;> rfl
def Rd (w:World) (B:Nat) (v:Value) (xs:List Value):Prop:=
 ∃ A c,v = .slice A xs.length c∧(0<xs.length→∃ ad,A=some ad∧ad.block<B∧∀ j u,xs[j]? = some u→w.cell? (ad.add j)=some u)
section
variable {w w':World} {B B':Nat} {v:Value} {xs:List Value}
theorem Rd.keep (h:Rd w B v xs) (hk:∀ p:Addr,p.block<B→w'.cell? p=w.cell? p):Rd w' B v xs:=by
 obtain ⟨A,c,rfl,hc⟩:=h;refine ⟨A,c,rfl,fun h0=>?_⟩;obtain ⟨ad,rfl,hb,hx⟩:=hc h0;exact ⟨ad,rfl,hb,fun j u hu=>(hk _ (by rw [qep];exact hb)).trans (hx j u hu)⟩
theorem Rd.more (h:Rd w B v xs) (hB:B≤B'):Rd w B' v xs:=by
 obtain ⟨A,c,rfl,hc⟩:=h;refine ⟨A,c,rfl,fun h0=>?_⟩;obtain ⟨ad,rfl,hb,hx⟩:=hc h0;exact ⟨ad,rfl,by omega,hx⟩
theorem Rd.below' (h:Rd w B v xs) (hb:Below B' w w') (hB:B≤B'):Rd w' B v xs:=h.keep fun _ hp=>hb.cell (by omega)
theorem Rd.nil_ (w:World) (B:Nat) (c:Nat):Rd w B (.slice none 0 c) []:=⟨none,c,rfl,fun h=>absurd h (by simp)⟩
theorem Rd.of_own {base E n:Nat} (h:w.ownsRow base E 1 v n xs):Rd w w.heap.size v xs:=by
 obtain ⟨hl,h⟩:=h;rw [Nat.mul_one] at hl;rcases h with ⟨rfl,rfl⟩ | ⟨g,cap,cur,rfl,_,hh,hn,_,hcur,htake⟩
 ·have:xs=[]:=List.eq_nil_of_length_eq_zero hl;subst this;exact Rd.nil_ w _ 0
 ·refine ⟨some ⟨g,0,none⟩,cap,by rw [hl],fun _=>⟨_,rfl,?_,fun j u hu=>?_⟩⟩
  ·show g<w.heap.size;rcases Nat.lt_or_ge g w.heap.size with hlt | hge
   ·exact hlt
   ·rw [Array.getElem?_eq_none hge] at hh;cases hh
  ·have hp:(⟨g,0,none⟩:Addr).add j=⟨g,j,none⟩:=by unfold Addr.add;split <;> simp_all
   rw [hp,←htake] at *;have hcj:cur[j]? = some u:=by
    rw [List.getElem?_take] at hu;split at hu
    ·simpa using hu
    ·cases hu
   simp [World.cell?,hh,hcj]
theorem Rd.conv {P:Program} {S E D:TypeId} {l:List UInt8} (h:Rd w B v (Lib.byteCells l)) (hs:P.underlying S=some (.slice E)) (he:P.underlying E=some (.int .u8)) (hd:P.underlying D=some .string) :
  (convert S D v).run P w = .ok (.string ⟨l.toArray⟩) w:=by
 obtain ⟨A,c,rfl,hc⟩:=h;by_cases h0:0<(Lib.byteCells l).length
 ·obtain ⟨ad,rfl,_,hx⟩:=hc h0;have hl:(loadCells ad (Lib.byteCells l).length).run P w = .ok ((l.map fun b=>(b.toNat:Int)).map (Value.int .u8)).toArray w:=by
   have:=run_loadCells_list (P:=P) w ad (Lib.byteCells l) hx;rw [List.map_map];simpa [Lib.byteCells,Function.comp_def] using this
  rw [run_convert_bytes_string w S D E _ _ c hs he hd,run_bytesToString w _ _ c _ hl,foldl_push_bytes];have e:(l.map fun b=>(b.toNat:Int)).map (fun n=>UInt8.ofNat n.toNat)=l:=by
   rw [List.map_map];conv=>rhs;rw [←List.map_id l]
   exact List.map_congr_left fun x _=>by simp
  rw [e];simp [ByteArray.empty,ByteArray.emptyWithCapacity];rfl
 ·have:l=[]:=by
   cases l with
   | nil=>rfl
   | cons a r=>exact absurd (by simp [Lib.byteCells]) h0
  subst this;cases A with
  | none=>exact run_convert_bytes_nil w S E hs he _ c D hd
  | some ad=>
   have hl:(loadCells ad 0).run P w = .ok (([]:List Int).map (Value.int .u8)).toArray w:=by
    simpa using run_loadCells_list (P:=P) w ad [] (by simp)
   rw [run_convert_bytes_string w S D E _ _ c hs he hd,show (Lib.byteCells []).length=0 from rfl,run_bytesToString w _ _ c [] hl];rfl
end
def qjK (E:TypeId) (xs:List Value) (w:World) (e:Ending) (w':World):Prop:=
 ∃ v,e = .returned v∧w'.ownsRow w.heap.size E 1 v xs.length xs∧Below w.heap.size w w'
end
section
open Go.RowKit
theorem qgB {w:World} {a:Addr} {v:Value} (h:w.cell? a=some v):a.block<w.heap.size:=by
 rcases Nat.lt_or_ge a.block w.heap.size with hlt | hge
 ·exact hlt
 ·simp [World.cell?,Array.getElem?_eq_none hge] at h
end
namespace Utf
open Go.RowKit
def byt (l:List UInt8) (k:Nat):Int:=((l.getD k 0).toNat:Int)
theorem qaj (l:List UInt8) (k:Nat):0≤byt l k:=by unfold byt;omega
theorem qcF (l:List UInt8) (k:Nat):byt l k≤255:=by unfold byt;have:=(l.getD k 0).toNat_lt;omega
theorem af (s:ByteArray):s.data.toList.length=s.size:=rfl
theorem aY (s:ByteArray) (k:Nat) (h:k<s.size):byt s.data.toList k=(s[k].toNat:Int):=by
 unfold byt;rw [List.getD_eq_getElem?_getD,List.getElem?_eq_getElem (by simpa using h)];rfl
theorem bM {a b:Bool} (h:a=b):Ending.returned (.bool a) = .returned (.bool b):=by rw [h]
theorem qch {k:IntKind} {a b:Int} (h:a=b):Ending.returned (.int k a) = .returned (.int k b):=by rw [h]
def ae (l:List UInt8):ByteArray:=⟨l.toArray⟩
theorem qag (l:List UInt8):(ae l).data.toList=l:=rfl
theorem aA (l:List UInt8):(ae l).toList=l:=by rw [ByteArray.toList_eq];rfl
theorem aF (l:List UInt8):(ae l).size=l.length:=rfl
def qdo (v:Value) (w:World) (e:Ending) (w':World):Prop:=e = .returned v∧Below w.heap.size w w'
def bJ (E:TypeId) (B:Nat) (xs:List Value) (w:World) (e:Ending) (w':World):Prop:=
 ∃ v,e = .returned v∧w'.ownsRow B E 1 v xs.length xs∧Below B w w'
theorem qhC {w:World} {E:TypeId} {xs:List Value} {cs:Array Value} {k:Nat} (h:cs.toList=xs) (hk:k=xs.length) (hm:xs.length≤maxLen) :
  qjK E xs w (.returned (.slice (some ⟨w.heap.size,0,none⟩) k k)) (w.alloc (.cells cs E)):=by
 subst hk;refine ⟨_,rfl,⟨by simp,.inr ⟨_,_,cs,rfl,Nat.le_refl _,heap_alloc_new w _,Nat.le_refl _,hm,?_,?_⟩⟩,(Below.refl _ _).alloc (Nat.le_refl _) _⟩
 ·rw [←h];simp
 ·rw [←h];exact List.take_of_length_le (by simp)
theorem bX:(Tryz.prog.info? 5).map (fun i=>(i.zero,i.size,i.bytes))=some (some (.int .u8 0),1,1):=by kernel_rfl
theorem ba (w:World) (E:TypeId) (cs:Array Value):∀ j u,cs.toList[j]? = some u→(w.alloc (.cells cs E)).cell? ((⟨w.heap.size,0,none⟩:Addr).add j)=some u:=by
 intro j u hu;have hp:(⟨w.heap.size,0,none⟩:Addr).add j=⟨w.heap.size,j,none⟩:=by unfold Addr.add;split <;> simp_all
 rw [hp];unfold World.cell?;rw [heap_alloc_new]
 simpa using hu
theorem cH {α : Type} (xs:List α) (k:Nat) (h:k<xs.length):xs.take (k+1)=xs.take k++[xs[k]]:=by
 rw [List.take_succ_eq_append_getElem h]
theorem aQ {w w':World} {base E size n:Nat} {v:Value} {xs:List Value} (h:w.ownsRow base E size v n xs) (hb:Below w.heap.size w w'):w'.ownsRow base E size v n xs:=by
 have hlt:=h.lt;obtain ⟨hl,h⟩:=h;refine ⟨hl,?_⟩;rcases h with h | ⟨g,cap,cur,rfl,h1,h2,h3⟩
 ·exact .inl h
 ·exact .inr ⟨g,cap,cur,rfl,h1,(hb.block g (hlt g rfl).2).trans h2,h3⟩
end Utf
namespace Nu
open Go.RowKit Utf
def dg (m:Nat):UInt8:=UInt8.ofNat (48+m % 10)
theorem qlB (m:Nat):(dg m).toNat=48+m % 10:=by unfold dg;simp;omega
def qcb:Nat→Nat→List UInt8
 | 0,_=>[]
 | f+1,m=>if m<10 then [dg m] else qcb f (m / 10)++[dg m]
def qa4 (m:Nat):List UInt8:=qcb 20 m
def qfF (m:Nat):List UInt8:=if m=0 then [] else qa4 m
def qa3 (n:Int):List UInt8:=if n<0 then 45::qa4 n.natAbs else qa4 n.natAbs
theorem qhw (f:Nat):∀ m,m<10 ^ f→0<f→qcb (f+1) m=qcb f m:=by
 induction f with
 | zero=>intro m _ h;omega
 | succ f ih=>
  intro m hm _;rw [qcb]
  conv=>rhs;rw [qcb]
  by_cases h10:m<10
  ·rw [if_pos h10,if_pos h10]
  ·rw [if_neg h10,if_neg h10];have h1:m / 10<10 ^ f:=by
    rw [Nat.pow_succ] at hm;omega
   have hf:0<f:=by
    rcases Nat.eq_zero_or_pos f with rfl | h
    ·simp at hm;omega
    ·exact h
   rw [ih _ h1 hf]
theorem qjO {m:Nat} (h:m<10):qa4 m=[dg m]:=by rw [qa4,qcb,if_pos h]
theorem qg3 {m:Nat} (h:¬m<10) (hm:m<10 ^ 20):qa4 m=qa4 (m / 10)++[dg m]:=by
 rw [qa4,qcb,if_neg h,qa4,qhw 19 (m / 10) (by omega) (by omega)]
theorem qmd {m:Nat} (hm:m<10 ^ 20):qa4 m=qfF (m / 10)++[dg m]:=by
 by_cases h:m<10
 ·rw [qjO h,qfF,if_pos (by omega)];rfl
 ·rw [qg3 h hm,qfF,if_neg (by omega)]
theorem qid {m:Nat} (h:m≠0):qfF m=qa4 m:=by rw [qfF,if_neg h]
def isD (b:Int):Bool:=decide (48≤b∧b≤57)
theorem qkx {b:Int} (h:isD b=true):48≤b∧b≤57:=by simpa [isD] using h
theorem qbw {l:List UInt8} {k:Nat} (h:l.length≤k):byt l k=0:=by
 unfold byt;rw [List.getD_eq_getElem?_getD,List.getElem?_eq_none h];rfl
theorem qlV {l:List UInt8} {k:Nat} (h:isD (byt l k)=true):k<l.length:=by
 rcases Nat.lt_or_ge k l.length with h1 | h1
 ·exact h1
 ·rw [qbw h1] at h;exact absurd h (by decide)
def bB (l:List UInt8) (p:Nat):Nat→Nat
 | 0=>0
 | k+1=>bB l p k*10+(byt l (p+k)-48).toNat
def qak (l:List UInt8) (p:Nat):Nat→Bool
 | 0=>true
 | k+1=>qak l p k&&isD (byt l (p+k))
theorem cz (l:List UInt8) (p k:Nat):qak l p k=true↔∀ j,j<k→isD (byt l (p+j))=true:=by
 induction k with
 | zero=>simp [qak]
 | succ k ih=>
  rw [qak,Bool.and_eq_true,ih];constructor
  ·intro ⟨h1,h2⟩ j hj;rcases Nat.lt_or_ge j k with h | h
   ·exact h1 j h
   ·obtain rfl:j=k:=by omega
    exact h2
  ·intro h;exact ⟨fun j hj=>h j (by omega),h k (by omega)⟩
theorem qjE {l:List UInt8} {p k:Nat} (h:qak l p k=true) (hk:0<k):p+k≤l.length:=by
 have:=qlV ((cz l p k).1 h (k-1) (by omega));omega
def qeS:List UInt8→Nat
 | []=>0
 | b::r=>if isD (b.toNat:Int)=true then qeS r+1 else 0
theorem qdz (l:List UInt8):∀ p,qak l p (qeS (l.drop p))=true∧isD (byt l (p+qeS (l.drop p)))=false:=by
 have key:∀ (m:List UInt8),qak m 0 (qeS m)=true∧isD (byt m (qeS m))=false:=by
  intro m;induction m with
  | nil=>exact ⟨rfl,by decide⟩
  | cons b r ih=>
   have hb:byt (b::r) 0=(b.toNat:Int):=rfl;have hs:∀ k,byt (b::r) (k+1)=byt r k:=fun k=>rfl;rw [qeS];by_cases h:isD (b.toNat:Int)=true
   ·rw [if_pos h,hs];refine ⟨?_,ih.2⟩;rw [cz];intro j hj;rw [Nat.zero_add];cases j with
    | zero=>rw [hb];exact h
    | succ j=>
     rw [hs];have:=(cz _ _ _).1 ih.1 j (by omega);rwa [Nat.zero_add] at this
   ·rw [if_neg h];exact ⟨rfl,by rw [hb];simpa using h⟩
 intro p;obtain ⟨h1,h2⟩:=key (l.drop p);have hd:∀ k,byt (l.drop p) k=byt l (p+k):=by
  intro k;unfold byt;rw [List.getD_eq_getElem?_getD,List.getElem?_drop,List.getD_eq_getElem?_getD]
 rw [hd] at h2;refine ⟨?_,h2⟩;rw [cz] at h1 ⊢;intro j hj;have:=h1 j hj;rwa [hd,Nat.zero_add] at this
def bR (l:List UInt8) (p:Nat):Nat:=qeS (l.drop p)
theorem qgR {l:List UInt8} {p k:Nat} (h:qak l p k=true) (hn:isD (byt l (p+k))=false):bR l p=k:=by
 obtain ⟨h1,h2⟩:=qdz l p;unfold bR;rcases Nat.lt_trichotomy (qeS (l.drop p)) k with h3 | h3 | h3
 ·have:=(cz _ _ _).1 h _ h3;rw [h2] at this;cases this
 ·exact h3
 ·have:=(cz _ _ _).1 h1 _ h3;rw [hn] at this;cases this
theorem qha (l:List UInt8) (p:Nat):qak l p (bR l p)=true:=(qdz l p).1
theorem qgz (l:List UInt8) (p:Nat) (h:p≤l.length):p+bR l p≤l.length:=by
 rcases Nat.eq_zero_or_pos (bR l p) with h0 | h0
 ·omega
 ·exact qjE (qha l p) h0
def qdi:Nat:=9007199254740991
def aZ (l:List UInt8) (p:Nat):Nat:=if byt l p=45 then p+1 else p
def qce (l:List UInt8) (f r:Nat):Prop:=r=0∨qdi<bB l f r∨(1<r∧byt l f=48)∨(byt l (f+r)=46∨byt l (f+r)=101∨byt l (f+r)=69)
instance (l:List UInt8) (f r:Nat):Decidable (qce l f r):=by unfold qce;infer_instance
def rdN (l:List UInt8) (p:Nat):Int×Int×Int:=
 if qce l (aZ l p) (bR l (aZ l p)) then (0,p,30)
 else ((if byt l p=45 then -(bB l (aZ l p) (bR l (aZ l p)):Int) else (bB l (aZ l p) (bR l (aZ l p)):Int)),(aZ l p+bR l (aZ l p):Nat),0)
def rdS (l:List UInt8) (a:Int):Int×Int×Int:=if a<0∨(l.length:Int)≤a then (0,a,30) else rdN l a.toNat
theorem qjC (l:List UInt8) (p:Nat) (h:p<l.length):p≤aZ l p∧aZ l p≤l.length:=by unfold aZ;split <;> omega
theorem qfV (l:List UInt8) (a:Int) : -(qdi:Int)≤(rdS l a).1∧(rdS l a).1≤qdi:=by
 have hm:qdi=9007199254740991:=rfl;unfold rdS;split
 ·simp [hm]
 ·unfold rdN;split
  ·simp [hm]
  ·rename_i h1 h2
   have h3:¬qdi<bB l (aZ l a.toNat) (bR l (aZ l a.toNat)):=fun h=>h2 (.inr (.inl h));show -(qdi:Int)≤(if byt l a.toNat=45 then _ else _)∧(if byt l a.toNat=45 then _ else _)≤(qdi:Int);split <;> omega
theorem qjz (m:Nat):1≤(qa4 m).length:=by
 unfold qa4;rw [qcb];by_cases h:m<10
 ·rw [if_pos h];exact Nat.le_refl _
 ·rw [if_neg h,List.length_append];exact Nat.le_add_left _ _
theorem qif (f:Nat):∀ m,(qcb f m).length≤f:=by
 induction f with
 | zero=>intro m;simp [qcb]
 | succ f ih=>
  intro m;rw [qcb];split
  ·simp
  ·have:=ih (m / 10);simp;omega
theorem qkP (m:Nat):(qa4 m).length≤20:=qif 20 m
theorem qfo (n:Int):1≤(qa3 n).length∧(qa3 n).length≤21:=by
 have:=qjz n.natAbs;have:=qkP n.natAbs;unfold qa3;split
 ·rw [List.length_cons];omega
 ·omega
def qmn (l:List UInt8):Int×Bool:=if (rdS l 0).2.2=0∧qa3 (rdS l 0).1=l then ((rdS l 0).1,true) else (0,false)
end Nu
namespace Wo
open Go.RowKit Utf Nu
def spl (c:UInt8):List UInt8→List (List UInt8)
 | []=>[[]]
 | x::r=>if x=c then []::spl c r else match spl c r with
  | []=>[[x]]
  | p::t=>(x::p)::t
def ltr (b:Int):Bool:=decide ((65≤b∧b≤90)∨(97≤b∧b≤122))
def nmB (b:Int):Bool:=ltr b || isD b || decide (b=33∨b=35∨b=36∨b=38∨b=45∨b=94∨b=95∨b=46∨b=43)
def nmS (l:List UInt8):Bool:=decide (1≤l.length∧l.length≤127)&&(ltr (byt l 0) || isD (byt l 0))&&l.all fun x=>nmB (x.toNat:Int)
def qmg (l:List UInt8):Bool:=match spl 47 l with
 | [a,b]=>nmS a&&nmS b
 | _=>false
def qm2 (l:List UInt8):Bool:=decide (1≤l.length∧l.length≤8)&&l.all fun x=>ltr (x.toNat:Int) || isD (x.toNat:Int)
def qm1 (l:List UInt8):Bool:=decide (2≤l.length∧l.length≤8)&&l.all fun x=>ltr (x.toNat:Int)
def qmu (l:List UInt8):Bool:=match spl 45 l with
 | []=>true
 | p::t=>qm1 p&&t.all qm2
def qno (b:Int):Bool:=decide (33≤b∧b≤126)&& !decide (b=34∨b=60∨b=62∨b=92∨b=94∨b=96∨b=123∨b=124∨b=125)
def qm0 (b:Int):Bool:=ltr b || isD b || decide (b=43∨b=45∨b=46)
def qh4 (l:List UInt8):Nat:=l.findIdx (· ==58)
def qnm (l:List UInt8):Bool:=decide (1≤qh4 l∧qh4 l+1<l.length)&&ltr (byt l 0)&&(l.take (qh4 l)).all (fun x=>qm0 (x.toNat:Int))&&l.all fun x=>qno (x.toNat:Int)
def qm4 (l:List UInt8):Bool:=decide (1≤qh4 l∧qh4 l+1<l.length)
def inS (l s:List UInt8):Bool:=decide (s≠[])&&(spl 32 l).contains s
end Wo
namespace Id
open Go.RowKit Utf Nu
def aP (b:Int):Bool:=decide (((65≤b∧b≤90)∨(97≤b∧b≤122)∨(48≤b∧b≤57))∨b=45∨b=95)
def isL (l:List UInt8):Bool:=decide (1≤l.length∧l.length≤255∧∀ k,k<l.length→aP (byt l k)=true)
def okK (k n:Int):Prop:=(k=1∨k=2)∧0≤n∧n≤9007199254740991
instance (k n:Int):Decidable (okK k n):=by unfold okK;infer_instance
def wor (b:Int):Int:=if 48≤b∧b≤57 then b-48 else if 97≤b∧b≤118 then b-87 else 0
def isW (b:Int):Bool:=decide ((48≤b∧b≤57)∨(97≤b∧b≤118))
def qk4 (l:List UInt8) (p:Nat):Nat→Int
 | 0=>0
 | k+1=>qk4 l p k*32+wor (byt l (p+k))
def qmM (l:List UInt8):Prop:=l.length=12∧(byt l 0=67∨byt l 0=66)∧(∀ j,j<11→isW (byt l (1+j))=true)∧qk4 l 1 11≤9007199254740991
instance (l:List UInt8):Decidable (qmM l):=by unfold qmM;infer_instance
def qmr (k:Int) (l:List UInt8):Prop:=(k=1∨k=2)∧0<l.length∧byt l 0=(if k=1 then 99 else 98)∧(qmn (l.drop 1)).2=true∧0≤(qmn (l.drop 1)).1
instance (k:Int) (l:List UInt8):Decidable (qmr k l):=by unfold qmr;infer_instance
end Id
namespace St
open Go.RowKit Utf Nu
def qnk (y:Int):Bool:=decide (y % 4=0∧y % 100≠0∨y % 400=0)
def qmT (y m:Int):Int:=if m=2 then (if qnk y=true then 29 else 28) else if m=4∨m=6∨m=9∨m=11 then 30 else 31
def qh5 (y m d:Int):Prop:=0≤y∧y≤9999∧1≤m∧m≤12∧1≤d∧d≤qmT y m
instance (y m d:Int):Decidable (qh5 y m d):=by unfold qh5;infer_instance
def qmk (y:Int):Int:=y / 400*146097+y % 400*365+((y % 400+3) / 4-(y % 400+99) / 100+(y % 400+399) / 400)
def qmj (y:Int):Nat→Int
 | 0=>0
 | k+1=>qmj y k+qmT y (k+1)
def qmW (y m d:Int):Int:=qmk y+qmj y (m-1).toNat+d-1
def qk7:List UInt8:=[48,48,48,48,45,48,48,45,48,48,84,48,48,58,48,48,58,48,48]
def qmX (k:Nat) (b:Int):Bool:=if byt qk7 k=48 then isD b else decide (b=byt qk7 k)
def frm (l:List UInt8):Bool:=decide (19≤l.length)&&(List.range 19).all fun k=>qmX k (byt l k)
def qnd (l:List UInt8) (p:Nat):Bool:=decide ((l.length=p+1∧byt l p=90)∨(p+3≤l.length∧l.length≤p+11∧byt l p=46∧byt l (l.length-1)=90∧byt l (l.length-2)≠48∧qak l (p+1) (l.length-(p+2))=true))
def qiX (l:List UInt8):Prop:=frm l=true∧qnd l 19=true∧qh5 (bB l 0 4) (bB l 5 2) (bB l 8 2)∧bB l 11 2≤23∧bB l 14 2≤59∧bB l 17 2≤59
instance (l:List UInt8):Decidable (qiX l):=by unfold qiX;infer_instance
def qkn (l:List UInt8):Int:=(qmW (bB l 0 4) (bB l 5 2) (bB l 8 2)-719528)*86400+((bB l 11 2:Int)*60+bB l 14 2)*60+bB l 17 2
