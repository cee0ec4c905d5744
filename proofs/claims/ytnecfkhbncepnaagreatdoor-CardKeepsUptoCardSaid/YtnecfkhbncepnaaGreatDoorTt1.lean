/- Merged: Base NuPl WoPl IdPl StPl StPl2 PoPl. -/
import Derived.Test.YtnecfkhbncepnaaGreatDoorTtMv
import Derived.Test.YtnecfkhbncepnaaGreatDoorProg
import Derived.Below
import Derived.Laws.OwnMore
import Derived.Laws.BytesArg
import Derived.Deep.Draws
import Derived.Lib.UnsafeStr
import Derived.Lib.Hide
import Derived.WalkKit
import Derived.Laws.AppendOwn
import Derived.Laws.BytesString
import Derived.Lib.Strings
import Derived.OpenShut
namespace Go.Proofs.YtnecfkhbncepnaaGreatDoor
section
open Go.RowKit
theorem qgc (a:Addr) (n:Nat):(a.add n).block=a.block:=by unfold Addr.add;split <;> rfl
def Rd (w:World) (B:Nat) (v:Value) (xs:List Value):Prop:=
 ∃ A c,v = .slice A xs.length c∧(0<xs.length→∃ ad,A=some ad∧ad.block<B∧∀ j u,xs[j]? = some u→w.cell? (ad.add j)=some u)
section
variable {w w':World} {B B':Nat} {v:Value} {xs:List Value}
theorem Rd.keep (h:Rd w B v xs) (hk:∀ p:Addr,p.block<B→w'.cell? p=w.cell? p):Rd w' B v xs:=by
 obtain ⟨A,c,rfl,hc⟩:=h;refine ⟨A,c,rfl,fun h0=>?_⟩;obtain ⟨ad,rfl,hb,hx⟩:=hc h0;exact ⟨ad,rfl,hb,fun j u hu=>(hk _ (by rw [qgc];exact hb)).trans (hx j u hu)⟩
theorem Rd.more (h:Rd w B v xs) (hB:B≤B'):Rd w B' v xs:=by
 obtain ⟨A,c,rfl,hc⟩:=h;refine ⟨A,c,rfl,fun h0=>?_⟩;obtain ⟨ad,rfl,hb,hx⟩:=hc h0;exact ⟨ad,rfl,by omega,hx⟩
theorem Rd.below' (h:Rd w B v xs) (hb:Below B' w w') (hB:B≤B'):Rd w' B v xs:=h.keep fun _ hp=>hb.cell (by omega)
theorem Rd.nil_ (w:World) (B:Nat) (c:Nat):Rd w B (.slice none 0 c) []:=⟨none,c,rfl,fun h=>absurd h (by simp)⟩
theorem Rd.of_own {base E n:Nat} (h:w.ownsRow base E 1 v n xs):Rd w w.heap.size v xs:=by
 obtain ⟨hl,h⟩:=h;rw [Nat.mul_one] at hl;rcases h with ⟨rfl,rfl⟩ | ⟨g,cap,cur,rfl,_,hh,hn,_,hcur,htake⟩
 ·have:xs=[]:=List.eq_nil_of_length_eq_zero hl;subst this;exact Rd.nil_ w _ 0
 ·refine ⟨some ⟨g,0,none⟩,cap,by rw [hl],fun _=>⟨_,rfl,?_,fun j u hu=>?_⟩⟩
  ·show g<w.heap.size;rcases Nat.lt_or_ge g w.heap.size with hlt | hge
   ·exact hlt
   ·rw [Array.getElem?_eq_none hge] at hh;cases hh
  ·have hp:(⟨g,0,none⟩:Addr).add j=⟨g,j,none⟩:=by unfold Addr.add;split <;> simp_all
   rw [hp,←htake] at *;have hcj:cur[j]? = some u:=by
    rw [List.getElem?_take] at hu;split at hu
    ·simpa using hu
    ·cases hu
   simp [World.cell?,hh,hcj]
theorem Rd.conv {P:Program} {S E D:TypeId} {l:List UInt8} (h:Rd w B v (Lib.byteCells l)) (hs:P.underlying S=some (.slice E)) (he:P.underlying E=some (.int .u8)) (hd:P.underlying D=some .string) :
  (convert S D v).run P w = .ok (.string ⟨l.toArray⟩) w:=by
 obtain ⟨A,c,rfl,hc⟩:=h;by_cases h0:0<(Lib.byteCells l).length
 ·obtain ⟨ad,rfl,_,hx⟩:=hc h0;have hl:(loadCells ad (Lib.byteCells l).length).run P w = .ok ((l.map fun b=>(b.toNat:Int)).map (Value.int .u8)).toArray w:=by
   have:=run_loadCells_list (P:=P) w ad (Lib.byteCells l) hx;rw [List.map_map];simpa [Lib.byteCells,Function.comp_def] using this
  rw [run_convert_bytes_string w S D E _ _ c hs he hd,run_bytesToString w _ _ c _ hl,foldl_push_bytes];have e:(l.map fun b=>(b.toNat:Int)).map (fun n=>UInt8.ofNat n.toNat)=l:=by
   rw [List.map_map];conv=>rhs;rw [←List.map_id l]
   exact List.map_congr_left fun x _=>by simp
  rw [e];simp [ByteArray.empty,ByteArray.emptyWithCapacity];rfl
 ·have:l=[]:=by
   cases l with
   | nil=>rfl
   | cons a r=>exact absurd (by simp [Lib.byteCells]) h0
  subst this;cases A with
  | none=>exact run_convert_bytes_nil w S E hs he _ c D hd
  | some ad=>
   have hl:(loadCells ad 0).run P w = .ok (([]:List Int).map (Value.int .u8)).toArray w:=by
    simpa using run_loadCells_list (P:=P) w ad [] (by simp)
   rw [run_convert_bytes_string w S D E _ _ c hs he hd,show (Lib.byteCells []).length=0 from rfl,run_bytesToString w _ _ c [] hl];rfl
end
def qnC (E:TypeId) (xs:List Value) (w:World) (e:Ending) (w':World):Prop:=
 ∃ v,e = .returned v∧w'.ownsRow w.heap.size E 1 v xs.length xs∧Below w.heap.size w w'
end
section
open Go.RowKit
theorem qgR {w:World} {a:Addr} {v:Value} (h:w.cell? a=some v):a.block<w.heap.size:=by
 rcases Nat.lt_or_ge a.block w.heap.size with hlt | hge
 ·exact hlt
 ·simp [World.cell?,Array.getElem?_eq_none hge] at h
end
namespace Utf
open Go.RowKit
def byt (l:List UInt8) (k:Nat):Int:=((l.getD k 0).toNat:Int)
theorem eB (l:List UInt8) (k:Nat):0≤byt l k:=by unfold byt;omega
theorem qcM (l:List UInt8) (k:Nat):byt l k≤255:=by unfold byt;have:=(l.getD k 0).toNat_lt;omega
theorem ac (s:ByteArray):s.data.toList.length=s.size:=rfl
theorem be (s:ByteArray) (k:Nat) (h:k<s.size):byt s.data.toList k=(s[k].toNat:Int):=by
 unfold byt;rw [List.getD_eq_getElem?_getD,List.getElem?_eq_getElem (by simpa using h)];rfl
theorem aW {a b:Bool} (h:a=b):Ending.returned (.bool a) = .returned (.bool b):=by rw [h]
theorem qdE {k:IntKind} {a b:Int} (h:a=b):Ending.returned (.int k a) = .returned (.int k b):=by rw [h]
def aa (l:List UInt8):ByteArray:=⟨l.toArray⟩
theorem aD (l:List UInt8):(aa l).data.toList=l:=rfl
theorem ak (l:List UInt8):(aa l).toList=l:=by rw [ByteArray.toList_eq];rfl
theorem al (l:List UInt8):(aa l).size=l.length:=rfl
def qbk (v:Value) (w:World) (e:Ending) (w':World):Prop:=e = .returned v∧Below w.heap.size w w'
def cR (E:TypeId) (B:Nat) (xs:List Value) (w:World) (e:Ending) (w':World):Prop:=
 ∃ v,e = .returned v∧w'.ownsRow B E 1 v xs.length xs∧Below B w w'
theorem qk1 {w:World} {E:TypeId} {xs:List Value} {cs:Array Value} {k:Nat} (h:cs.toList=xs) (hk:k=xs.length) (hm:xs.length≤maxLen) :
  qnC E xs w (.returned (.slice (some ⟨w.heap.size,0,none⟩) k k)) (w.alloc (.cells cs E)):=by
 subst hk;refine ⟨_,rfl,⟨by simp,.inr ⟨_,_,cs,rfl,Nat.le_refl _,heap_alloc_new w _,Nat.le_refl _,hm,?_,?_⟩⟩,(Below.refl _ _).alloc (Nat.le_refl _) _⟩
 ·rw [←h];simp
 ·rw [←h];exact List.take_of_length_le (by simp)
theorem dn:(Tryz.prog.info? 5).map (fun i=>(i.zero,i.size,i.bytes))=some (some (.int .u8 0),1,1):=by kernel_rfl
theorem bM (w:World) (E:TypeId) (cs:Array Value):∀ j u,cs.toList[j]? = some u→(w.alloc (.cells cs E)).cell? ((⟨w.heap.size,0,none⟩:Addr).add j)=some u:=by
 intro j u hu;have hp:(⟨w.heap.size,0,none⟩:Addr).add j=⟨w.heap.size,j,none⟩:=by unfold Addr.add;split <;> simp_all
 rw [hp];unfold World.cell?;rw [heap_alloc_new]
 simpa using hu
theorem bZ {α : Type} (xs:List α) (k:Nat) (h:k<xs.length):xs.take (k+1)=xs.take k++[xs[k]]:=by
 rw [List.take_succ_eq_append_getElem h]
theorem bD {w w':World} {base E size n:Nat} {v:Value} {xs:List Value} (h:w.ownsRow base E size v n xs) (hb:Below w.heap.size w w'):w'.ownsRow base E size v n xs:=by
 have hlt:=h.lt;obtain ⟨hl,h⟩:=h;refine ⟨hl,?_⟩;rcases h with h | ⟨g,cap,cur,rfl,h1,h2,h3⟩
 ·exact .inl h
 ·exact .inr ⟨g,cap,cur,rfl,h1,(hb.block g (hlt g rfl).2).trans h2,h3⟩
end Utf
namespace Nu
open Go.RowKit Utf
def dg (m:Nat):UInt8:=UInt8.ofNat (48+m % 10)
theorem qs7 (m:Nat):(dg m).toNat=48+m % 10:=by unfold dg;simp;omega
def qdo:Nat→Nat→List UInt8
 | 0,_=>[]
 | f+1,m=>if m<10 then [dg m] else qdo f (m / 10)++[dg m]
def qbh (m:Nat):List UInt8:=qdo 20 m
def qiP (m:Nat):List UInt8:=if m=0 then [] else qbh m
def qbi (n:Int):List UInt8:=if n<0 then 45::qbh n.natAbs else qbh n.natAbs
theorem qmr (f:Nat):∀ m,m<10 ^ f→0<f→qdo (f+1) m=qdo f m:=by
 induction f with
 | zero=>intro m _ h;omega
 | succ f ih=>
  intro m hm _;rw [qdo]
  conv=>rhs;rw [qdo]
  by_cases h10:m<10
  ·rw [if_pos h10,if_pos h10]
  ·rw [if_neg h10,if_neg h10];have h1:m / 10<10 ^ f:=by
    rw [Nat.pow_succ] at hm;omega
   have hf:0<f:=by
    rcases Nat.eq_zero_or_pos f with rfl | h
    ·simp at hm;omega
    ·exact h
   rw [ih _ h1 hf]
theorem qoc {m:Nat} (h:m<10):qbh m=[dg m]:=by rw [qbh,qdo,if_pos h]
theorem qlM {m:Nat} (h:¬m<10) (hm:m<10 ^ 20):qbh m=qbh (m / 10)++[dg m]:=by
 rw [qbh,qdo,if_neg h,qbh,qmr 19 (m / 10) (by omega) (by omega)]
theorem qsY {m:Nat} (hm:m<10 ^ 20):qbh m=qiP (m / 10)++[dg m]:=by
 by_cases h:m<10
 ·rw [qoc h,qiP,if_pos (by omega)];rfl
 ·rw [qlM h hm,qiP,if_neg (by omega)]
theorem qnY {m:Nat} (h:m≠0):qiP m=qbh m:=by rw [qiP,if_neg h]
def isD (b:Int):Bool:=decide (48≤b∧b≤57)
theorem dN {b:Int} (h:isD b=true):48≤b∧b≤57:=by simpa [isD] using h
theorem qcc {l:List UInt8} {k:Nat} (h:l.length≤k):byt l k=0:=by
 unfold byt;rw [List.getD_eq_getElem?_getD,List.getElem?_eq_none h];rfl
theorem qiM {l:List UInt8} {k:Nat} (h:k<l.length):byt l k=(l[k].toNat:Int):=by
 unfold byt;rw [List.getD_eq_getElem?_getD,List.getElem?_eq_getElem h];rfl
theorem qsy {l:List UInt8} {k:Nat} (h:isD (byt l k)=true):k<l.length:=by
 rcases Nat.lt_or_ge k l.length with h1 | h1
 ·exact h1
 ·rw [qcc h1] at h;exact absurd h (by decide)
def aH (l:List UInt8) (p:Nat):Nat→Nat
 | 0=>0
 | k+1=>aH l p k*10+(byt l (p+k)-48).toNat
def bk (l:List UInt8) (p:Nat):Nat→Bool
 | 0=>true
 | k+1=>bk l p k&&isD (byt l (p+k))
theorem bN (l:List UInt8) (p k:Nat):bk l p k=true↔∀ j,j<k→isD (byt l (p+j))=true:=by
 induction k with
 | zero=>simp [bk]
 | succ k ih=>
  rw [bk,Bool.and_eq_true,ih];constructor
  ·intro ⟨h1,h2⟩ j hj;rcases Nat.lt_or_ge j k with h | h
   ·exact h1 j h
   ·obtain rfl:j=k:=by omega
    exact h2
  ·intro h;exact ⟨fun j hj=>h j (by omega),h k (by omega)⟩
theorem qmP {l:List UInt8} {p k:Nat} (h:bk l p k=true) (hk:0<k):p+k≤l.length:=by
 have:=qsy ((bN l p k).1 h (k-1) (by omega));omega
def qhH:List UInt8→Nat
 | []=>0
 | b::r=>if isD (b.toNat:Int)=true then qhH r+1 else 0
theorem qfN (l:List UInt8):∀ p,bk l p (qhH (l.drop p))=true∧isD (byt l (p+qhH (l.drop p)))=false:=by
 have key:∀ (m:List UInt8),bk m 0 (qhH m)=true∧isD (byt m (qhH m))=false:=by
  intro m;induction m with
  | nil=>exact ⟨rfl,by decide⟩
  | cons b r ih=>
   have hb:byt (b::r) 0=(b.toNat:Int):=rfl;have hs:∀ k,byt (b::r) (k+1)=byt r k:=fun k=>rfl;rw [qhH];by_cases h:isD (b.toNat:Int)=true
   ·rw [if_pos h,hs];refine ⟨?_,ih.2⟩;rw [bN];intro j hj;rw [Nat.zero_add];cases j with
    | zero=>rw [hb];exact h
    | succ j=>
     rw [hs];have:=(bN _ _ _).1 ih.1 j (by omega);rwa [Nat.zero_add] at this
   ·rw [if_neg h];exact ⟨rfl,by rw [hb];simpa using h⟩
 intro p;obtain ⟨h1,h2⟩:=key (l.drop p);have hd:∀ k,byt (l.drop p) k=byt l (p+k):=by
  intro k;unfold byt;rw [List.getD_eq_getElem?_getD,List.getElem?_drop,List.getD_eq_getElem?_getD]
 rw [hd] at h2;refine ⟨?_,h2⟩;rw [bN] at h1 ⊢;intro j hj;have:=h1 j hj;rwa [hd,Nat.zero_add] at this
def cZ (l:List UInt8) (p:Nat):Nat:=qhH (l.drop p)
theorem qj4 {l:List UInt8} {p k:Nat} (h:bk l p k=true) (hn:isD (byt l (p+k))=false):cZ l p=k:=by
 obtain ⟨h1,h2⟩:=qfN l p;unfold cZ;rcases Nat.lt_trichotomy (qhH (l.drop p)) k with h3 | h3 | h3
 ·have:=(bN _ _ _).1 h _ h3;rw [h2] at this;cases this
 ·exact h3
 ·have:=(bN _ _ _).1 h1 _ h3;rw [hn] at this;cases this
theorem qmw (l:List UInt8) (p:Nat):bk l p (cZ l p)=true:=(qfN l p).1
theorem qjQ (l:List UInt8) (p:Nat) (h:p≤l.length):p+cZ l p≤l.length:=by
 rcases Nat.eq_zero_or_pos (cZ l p) with h0 | h0
 ·omega
 ·exact qmP (qmw l p) h0
def qe1:Nat:=9007199254740991
def bJ (l:List UInt8) (p:Nat):Nat:=if byt l p=45 then p+1 else p
def dD (l:List UInt8) (f r:Nat):Prop:=r=0∨qe1<aH l f r∨(1<r∧byt l f=48)∨(byt l (f+r)=46∨byt l (f+r)=101∨byt l (f+r)=69)
instance (l:List UInt8) (f r:Nat):Decidable (dD l f r):=by unfold dD;infer_instance
def rdN (l:List UInt8) (p:Nat):Int×Int×Int:=
 if dD l (bJ l p) (cZ l (bJ l p)) then (0,p,30)
 else ((if byt l p=45 then -(aH l (bJ l p) (cZ l (bJ l p)):Int) else (aH l (bJ l p) (cZ l (bJ l p)):Int)),(bJ l p+cZ l (bJ l p):Nat),0)
def rdS (l:List UInt8) (a:Int):Int×Int×Int:=if a<0∨(l.length:Int)≤a then (0,a,30) else rdN l a.toNat
theorem qoM (l:List UInt8) (p:Nat) (h:p<l.length):p≤bJ l p∧bJ l p≤l.length:=by unfold bJ;split <;> omega
theorem qi2 (l:List UInt8) (a:Int) : -(qe1:Int)≤(rdS l a).1∧(rdS l a).1≤qe1:=by
 have hm:qe1=9007199254740991:=rfl;unfold rdS;split
 ·simp [hm]
 ·unfold rdN;split
  ·simp [hm]
  ·rename_i h1 h2
   have h3:¬qe1<aH l (bJ l a.toNat) (cZ l (bJ l a.toNat)):=fun h=>h2 (.inr (.inl h));show -(qe1:Int)≤(if byt l a.toNat=45 then _ else _)∧(if byt l a.toNat=45 then _ else _)≤(qe1:Int);split <;> omega
theorem d6 (b:UInt8) (t:List UInt8):byt (b::t) 0=(b.toNat:Int):=rfl
theorem qnO (m:Nat):1≤(qbh m).length:=by
 unfold qbh;rw [qdo];by_cases h:m<10
 ·rw [if_pos h];exact Nat.le_refl _
 ·rw [if_neg h,List.length_append];exact Nat.le_add_left _ _
theorem qol (f:Nat):∀ m,(qdo f m).length≤f:=by
 induction f with
 | zero=>intro m;simp [qdo]
 | succ f ih=>
  intro m;rw [qdo];split
  ·simp
  ·have:=ih (m / 10);simp;omega
theorem qrc (m:Nat):(qbh m).length≤20:=qol 20 m
theorem qhP (n:Int):1≤(qbi n).length∧(qbi n).length≤21:=by
 have:=qnO n.natAbs;have:=qrc n.natAbs;unfold qbi;split
 ·rw [List.length_cons];omega
 ·omega
def qug (l:List UInt8):Int×Bool:=if (rdS l 0).2.2=0∧qbi (rdS l 0).1=l then ((rdS l 0).1,true) else (0,false)
end Nu
namespace Wo
open Go.RowKit Utf Nu
def spl (c:UInt8):List UInt8→List (List UInt8)
 | []=>[[]]
 | x::r=>if x=c then []::spl c r else match spl c r with
  | []=>[[x]]
  | p::t=>(x::p)::t
theorem qpg (c:UInt8):∀ l,spl c l≠[]
 | []=>by simp [spl]
 | x::r=>by
  rw [spl];split
  ·simp
  ·split <;> simp
theorem qcW {c:UInt8}:∀ {l:List UInt8},c∉l→spl c l=[l]
 | [],_=>rfl
 | x::r,h=>by
  have h1:¬x=c:=fun e=>h (by rw [e];exact List.mem_cons_self);rw [spl,if_neg h1,qcW (fun h2=>h (List.mem_cons_of_mem _ h2))]
theorem qkM (c:UInt8):∀ a b:List UInt8,spl c (a++c::b)=spl c a++spl c b
 | [],b=>by
  show spl c (c::b)=[]::spl c b
  conv=>lhs;rw [spl,if_pos rfl]
 | x::r,b=>by
  rw [List.cons_append,spl,qkM c r b]
  conv=>rhs;rw [spl]
  by_cases h:x=c
  ·rw [if_pos h,if_pos h];rfl
  ·rw [if_neg h,if_neg h];cases hr:spl c r with
   | nil=>exact absurd hr (qpg c r)
   | cons p t=>rfl
def ltr (b:Int):Bool:=decide ((65≤b∧b≤90)∨(97≤b∧b≤122))
def nmB (b:Int):Bool:=ltr b || isD b || decide (b=33∨b=35∨b=36∨b=38∨b=45∨b=94∨b=95∨b=46∨b=43)
def nmS (l:List UInt8):Bool:=decide (1≤l.length∧l.length≤127)&&(ltr (byt l 0) || isD (byt l 0))&&l.all fun x=>nmB (x.toNat:Int)
def dG (l:List UInt8):Bool:=match spl 47 l with
 | [a,b]=>nmS a&&nmS b
 | _=>false
def qiD (l:List UInt8):Bool:=decide (1≤l.length∧l.length≤8)&&l.all fun x=>ltr (x.toNat:Int) || isD (x.toNat:Int)
def qmy (l:List UInt8):Bool:=decide (2≤l.length∧l.length≤8)&&l.all fun x=>ltr (x.toNat:Int)
def eV (l:List UInt8):Bool:=match spl 45 l with
 | []=>true
 | p::t=>qmy p&&t.all qiD
def eY (b:Int):Bool:=decide (33≤b∧b≤126)&& !decide (b=34∨b=60∨b=62∨b=92∨b=94∨b=96∨b=123∨b=124∨b=125)
def qat (b:Int):Bool:=ltr b || isD b || decide (b=43∨b=45∨b=46)
def qe7 (l:List UInt8):Nat:=l.findIdx (· ==58)
def qdS (l:List UInt8):Bool:=decide (1≤qe7 l∧qe7 l+1<l.length)&&ltr (byt l 0)&&(l.take (qe7 l)).all (fun x=>qat (x.toNat:Int))&&l.all fun x=>eY (x.toNat:Int)
def qjJ (l:List UInt8):Bool:=decide (1≤qe7 l∧qe7 l+1<l.length)
def inS (l s:List UInt8):Bool:=decide (s≠[])&&(spl 32 l).contains s
end Wo
namespace Id
open Go.RowKit Utf Nu
def qdR (b:Int):Bool:=decide (((65≤b∧b≤90)∨(97≤b∧b≤122)∨(48≤b∧b≤57))∨b=45∨b=95)
def isL (l:List UInt8):Bool:=decide (1≤l.length∧l.length≤255∧∀ k,k<l.length→qdR (byt l k)=true)
theorem qsN {l:List UInt8} {k:Nat} (hk:k<l.length) (h:qdR (byt l k)=false):isL l=false:=
 decide_eq_false fun h3=>by rw [h3.2.2 k hk] at h;cases h
theorem qkR {l:List UInt8} (h:l.length=0∨255<l.length):isL l=false:=decide_eq_false fun h3=>by omega
theorem qsn {l:List UInt8} (h:∀ k,k<l.length→qdR (byt l k)=true):isL l=decide (1≤l.length∧l.length≤255):=by
 unfold isL;exact decide_eq_decide.2 ⟨fun h3=>⟨h3.1,h3.2.1⟩,fun h3=>⟨h3.1,h3.2,h⟩⟩
def okK (k n:Int):Prop:=(k=1∨k=2)∧0≤n∧n≤9007199254740991
instance (k n:Int):Decidable (okK k n):=by unfold okK;infer_instance
def wor (b:Int):Int:=if 48≤b∧b≤57 then b-48 else if 97≤b∧b≤118 then b-87 else 0
def isW (b:Int):Bool:=decide ((48≤b∧b≤57)∨(97≤b∧b≤118))
def qrw (l:List UInt8) (p:Nat):Nat→Int
 | 0=>0
 | k+1=>qrw l p k*32+wor (byt l (p+k))
def qtS (l:List UInt8):Prop:=l.length=12∧(byt l 0=67∨byt l 0=66)∧(∀ j,j<11→isW (byt l (1+j))=true)∧qrw l 1 11≤9007199254740991
instance (l:List UInt8):Decidable (qtS l):=by unfold qtS;infer_instance
def qty (k:Int) (l:List UInt8):Prop:=(k=1∨k=2)∧0<l.length∧byt l 0=(if k=1 then 99 else 98)∧(qug (l.drop 1)).2=true∧0≤(qug (l.drop 1)).1
instance (k:Int) (l:List UInt8):Decidable (qty k l):=by unfold qty;infer_instance
end Id
namespace St
open Go.RowKit Utf Nu
def qdq (y:Int):Bool:=decide (y % 4=0∧y % 100≠0∨y % 400=0)
def b7 (y m:Int):Int:=if m=2 then (if qdq y=true then 29 else 28) else if m=4∨m=6∨m=9∨m=11 then 30 else 31
def db (y m d:Int):Prop:=0≤y∧y≤9999∧1≤m∧m≤12∧1≤d∧d≤b7 y m
instance (y m d:Int):Decidable (db y m d):=by unfold db;infer_instance
theorem qch (y m:Int):28≤b7 y m∧b7 y m≤31:=by
 unfold b7;split <;> split <;> omega
theorem qnM {y:Int} (h:qdq y=true):y % 4=0∧y % 100≠0∨y % 400=0:=of_decide_eq_true h
theorem qpZ {y:Int} (h:¬qdq y=true):¬(y % 4=0∧y % 100≠0∨y % 400=0):=fun h2=>h (zT h2)
def dK (y:Int):Int:=y / 400*146097+y % 400*365+((y % 400+3) / 4-(y % 400+99) / 100+(y % 400+399) / 400)
theorem qdM (y:Int):dK (y+1)=dK y+337+b7 y 2:=by
 unfold dK b7;rw [if_pos rfl];split
 ·rename_i h
  have h:=qnM h;omega
 ·rename_i h
  have h:=qpZ h;omega
theorem qpC:dK 0=0:=by decide
theorem qk4:dK 10000=3652425:=by decide
theorem qey (y:Int):∀ k:Nat,dK y+365*k≤dK (y+k)
 | 0=>by simp
 | k+1=>by
  have h1:=qey y k;have h2:=qdM (y+k);have h3:=qch (y+k) 2;rw [show y+((k+1:Nat):Int)=y+k+1 by omega];omega
theorem qeC {y:Int} (h0:0≤y) (h1:y≤10000):0≤dK y∧dK y≤3652425:=by
 have a:=qey 0 y.toNat;have b:=qey y (10000-y).toNat;rw [show (0:Int)+(y.toNat:Int)=y by omega,qpC] at a;rw [show y+((10000-y).toNat:Int)=10000 by omega,qk4] at b;omega
def ez (y:Int):Nat→Int
 | 0=>0
 | k+1=>ez y k+b7 y (k+1)
theorem qfC (y:Int):ez y 12=337+b7 y 2:=by
 have h:ez y 12=0+b7 y 1+b7 y 2+b7 y 3+b7 y 4+b7 y 5+b7 y 6+b7 y 7+b7 y 8+b7 y 9+b7 y 10+b7 y 11+b7 y 12:=rfl;have e:∀ m:Int,m=1∨m=3∨m=5∨m=7∨m=8∨m=10∨m=12→b7 y m=31:=by
  intro m h;unfold b7;rw [if_neg (by omega),if_neg (by omega)]
 have f:∀ m:Int,m=4∨m=6∨m=9∨m=11→b7 y m=30:=by
  intro m h;unfold b7;rw [if_neg (by omega),if_pos (by omega)]
 rw [h,e 1 (by omega),e 3 (by omega),f 4 (by omega),e 5 (by omega),f 6 (by omega),e 7 (by omega),e 8 (by omega),f 9 (by omega),e 10 (by omega),f 11 (by omega),e 12 (by omega)];omega
theorem qdy (y:Int) (j:Nat):∀ k:Nat,ez y j+28*k≤ez y (j+k)
 | 0=>by simp
 | k+1=>by
  have h1:=qdy y j k;have h3:=qch y ((j+k:Nat)+1);rw [←Nat.add_assoc,ez];omega
theorem qpq (y:Int) {j k:Nat} (h:j<k):ez y j+b7 y (j+1)≤ez y k:=by
 have:=qdy y (j+1) (k-(j+1));rw [show j+1+(k-(j+1))=k by omega,ez] at this;omega
theorem qo1 (y:Int) (j:Nat):0≤ez y j:=by
 have:=qdy y 0 j;rw [Nat.zero_add,ez] at this;omega
def qem (y m d:Int):Int:=dK y+ez y (m-1).toNat+d-1
theorem qpU {y m d:Int} (h:db y m d):dK y≤qem y m d∧qem y m d<dK (y+1):=by
 obtain ⟨h1,h2,h3,h4,h5,h6⟩:=h;have a:=qo1 y (m-1).toNat;have b:=qpq y (j:=(m-1).toNat) (k:=12) (by omega);rw [show (((m-1).toNat:Nat):Int)+1=m by omega,qfC] at b;have c:=qdM y;unfold qem;omega
theorem qq6 {y m d:Int} (h:db y m d):0≤qem y m d∧qem y m d<3652425:=by
 have a:=qpU h;obtain ⟨h1,h2,_⟩:=h;have b:=qeC h1 (by omega);have c:=qeC (y:=y+1) (by omega) (by omega);omega
def eW:List UInt8:=[48,48,48,48,45,48,48,45,48,48,84,48,48,58,48,48,58,48,48]
def qe2 (k:Nat) (b:Int):Bool:=if byt eW k=48 then isD b else decide (b=byt eW k)
def frm (l:List UInt8):Bool:=decide (19≤l.length)&&(List.range 19).all fun k=>qe2 k (byt l k)
theorem qkJ {l:List UInt8} (h:frm l=true):19≤l.length:=of_decide_eq_true (Bool.and_eq_true_iff.1 h).1
theorem qnw {l:List UInt8} (h:frm l=true) (k:Nat) (hk:k<19):qe2 k (byt l k)=true:=List.all_eq_true.1 (Bool.and_eq_true_iff.1 h).2 k (List.mem_range.2 hk)
theorem qss {l:List UInt8} (h:19≤l.length) (hk:∀ k,k<19→qe2 k (byt l k)=true):frm l=true:=
 Bool.and_eq_true_iff.2 ⟨zT h,List.all_eq_true.2 fun k hm=>hk k (List.mem_range.1 hm)⟩
theorem qrT {l:List UInt8} {k:Nat} (hk:k<19) (h:qe2 k (byt l k)=false):frm l=false:=
 Bool.eq_false_iff.2 fun h2=>by rw [qnw h2 k hk] at h;cases h
theorem ql9 {l:List UInt8} (h:l.length<19):frm l=false:=Bool.eq_false_iff.2 fun h2=>by have:=qkJ h2;omega
def dgp (k:Nat):Bool:=(byt eW k==48)
theorem qql {l:List UInt8} (h:frm l=true) (k:Nat) (hk:k<19) (hd:dgp k=true):isD (byt l k)=true:=by
 have:=qnw h k hk;unfold qe2 at this;rwa [if_pos (by simpa [dgp] using hd)] at this
theorem qo9 {l:List UInt8} (h:frm l=true):bk l 0 4=true∧bk l 5 2=true∧bk l 8 2=true∧bk l 11 2=true∧bk l 14 2=true∧bk l 17 2=true:=by
 have d:=qql h;refine ⟨?_,?_,?_,?_,?_,?_⟩ <;> simp only [bk,Nat.add_zero,Nat.zero_add,Bool.true_and,Bool.and_eq_true]
 ·exact ⟨⟨⟨d 0 (by omega) rfl,d 1 (by omega) rfl⟩,d 2 (by omega) rfl⟩,d 3 (by omega) rfl⟩
 ·exact ⟨d 5 (by omega) rfl,d 6 (by omega) rfl⟩
 ·exact ⟨d 8 (by omega) rfl,d 9 (by omega) rfl⟩
 ·exact ⟨d 11 (by omega) rfl,d 12 (by omega) rfl⟩
 ·exact ⟨d 14 (by omega) rfl,d 15 (by omega) rfl⟩
 ·exact ⟨d 17 (by omega) rfl,d 18 (by omega) rfl⟩
def eO (l:List UInt8) (p:Nat):Bool:=decide ((l.length=p+1∧byt l p=90)∨(p+3≤l.length∧l.length≤p+11∧byt l p=46∧byt l (l.length-1)=90∧byt l (l.length-2)≠48∧bk l (p+1) (l.length-(p+2))=true))
theorem di (l:List UInt8) (p k:Nat):byt (l.drop p) k=byt l (p+k):=by
 unfold byt;rw [List.getD_eq_getElem?_getD,List.getElem?_drop,List.getD_eq_getElem?_getD]
theorem qeO (l:List UInt8) (p q:Nat):∀ k,bk (l.drop p) q k=bk l (p+q) k
 | 0=>rfl
 | k+1=>by rw [bk,bk,qeO l p q k,di,Nat.add_assoc]
theorem qmg (l:List UInt8) (h:19≤l.length):eO (l.drop 19) 0=eO l 19:=by
 unfold eO;rw [List.length_drop,di,di,di,qeO];refine decide_eq_decide.2 ?_;by_cases h2:22≤l.length
 ·rw [show 19+(l.length-19-1)=l.length-1 by omega,show 19+(l.length-19-2)=l.length-2 by omega,show l.length-19-(0+2)=l.length-(19+2) by omega];simp only [Nat.zero_add,Nat.add_zero];constructor
  ·rintro (⟨h3,h4⟩ | ⟨h3,h4,h5⟩)
   ·exact absurd h3 (by omega)
   ·exact .inr ⟨by omega,by omega,h5⟩
  ·rintro (⟨h3,h4⟩ | ⟨h3,h4,h5⟩)
   ·exact absurd h3 (by omega)
   ·exact .inr ⟨by omega,by omega,h5⟩
 ·constructor
  ·rintro (⟨h3,h4⟩ | ⟨h3,h4,h5⟩)
   ·exact .inl ⟨by omega,h4⟩
   ·exact absurd h3 (by omega)
  ·rintro (⟨h3,h4⟩ | ⟨h3,h4,h5⟩)
   ·exact .inl ⟨by omega,h4⟩
   ·exact absurd h3 (by omega)
def cA (l:List UInt8):Prop:=frm l=true∧eO l 19=true∧db (aH l 0 4) (aH l 5 2) (aH l 8 2)∧aH l 11 2≤23∧aH l 14 2≤59∧aH l 17 2≤59
instance (l:List UInt8):Decidable (cA l):=by unfold cA;infer_instance
def qhX (l:List UInt8):Int:=(qem (aH l 0 4) (aH l 5 2) (aH l 8 2)-719528)*86400+((aH l 11 2:Int)*60+aH l 14 2)*60+aH l 17 2
def qot (l:List UInt8):Int:=if cA l then qhX l else 0
theorem qdY (l:List UInt8) (p:Nat) (h:bk l p 2=true):aH l p 2≤99∧(aH l p 2:Int)=(byt l p-48)*10+(byt l (p+1)-48):=by
 simp only [bk,Nat.add_zero,Bool.true_and,Bool.and_eq_true] at h;have a:=dN h.1;have b:=dN h.2;simp only [aH,Nat.add_zero];omega
theorem qrA (l:List UInt8) (p:Nat) (h:bk l p 4=true):aH l p 4≤9999∧(aH l p 4:Int)=(byt l p-48)*1000+(byt l (p+1)-48)*100+(byt l (p+2)-48)*10+(byt l (p+3)-48):=by
 simp only [bk,Nat.add_zero,Bool.true_and,Bool.and_eq_true] at h;have a:=dN h.1.1.1;have b:=dN h.1.1.2;have c:=dN h.1.2;have d:=dN h.2;simp only [aH,Nat.add_zero];omega
end St
namespace Po
def pgo:Bool→List UInt8→List UInt8→Option (List (List UInt8))
 | true,_,[]=>none
 | false,part,[]=>some [part]
 | true,part,c::r=>if c=48 then pgo false (part++[126]) r else if c=49 then pgo false (part++[47]) r else none
 | false,part,c::r=>if c=126 then pgo true part r else if c=47 then (pgo false [] r).map fun ps=>part::ps else pgo false (part++[c]) r
def qsX:List UInt8→Option (List (List UInt8))
 | []=>some []
 | c::r=>if c=47 then pgo false [] r else none
theorem qk7 (part:List UInt8):pgo false part []=some [part]:=by rw [pgo]
theorem qlK (part:List UInt8):pgo true part []=none:=by rw [pgo]
theorem qjL (part:List UInt8) (c:UInt8) (r:List UInt8):pgo false part (c::r)=if c=126 then pgo true part r else if c=47 then (pgo false [] r).map (fun ps=>part::ps) else pgo false (part++[c]) r:=by rw [pgo]
theorem qiJ (part:List UInt8) (c:UInt8) (r:List UInt8):pgo true part (c::r)=if c=48 then pgo false (part++[126]) r else if c=49 then pgo false (part++[47]) r else none:=by rw [pgo]
theorem qaV:∀ (r:List UInt8) (b:Bool) (part:List UInt8) (ps:List (List UInt8)),pgo b part r=some ps→ps.length≤r.length+1∧(ps.map List.length).sum≤part.length+r.length
 | [],false,part,ps,h=>by rw [qk7] at h;injection h with h;subst h;simp
 | [],true,part,ps,h=>by rw [qlK] at h;cases h
 | c::r,true,part,ps,h=>by
  rw [qiJ] at h;split at h
  ·have:=qaV r _ _ _ h;simp at this ⊢;omega
  ·split at h
   ·have:=qaV r _ _ _ h;simp at this ⊢;omega
   ·cases h
 | c::r,false,part,ps,h=>by
  rw [qjL] at h;split at h
  ·have:=qaV r _ _ _ h;simp at this ⊢;omega
  ·split at h
   ·obtain ⟨qs,hq,rfl⟩:=Option.map_eq_some_iff.1 h;have:=qaV r _ _ _ hq;simp at this ⊢;omega
   ·have:=qaV r _ _ _ h;simp at this ⊢;omega
