/- Merged: Base NuPl WoPl IdPl StPl StPl2. -/
import Derived.Test.YtnecfkhbncepnaaGreatDoorTtMv
import Derived.Test.YtnecfkhbncepnaaGreatDoorProg
import Derived.Below
import Derived.Laws.OwnMore
import Derived.Laws.BytesArg
import Derived.Deep.Draws
import Derived.Lib.UnsafeStr
import Derived.Lib.Hide
import Derived.WalkKit
import Derived.Laws.AppendOwn
import Derived.Laws.BytesString
import Derived.Lib.Strings
import Derived.OpenShut
namespace Go.Proofs.YtnecfkhbncepnaaGreatDoor
section
open Go.RowKit
theorem qdu (a:Addr) (n:Nat):(a.add n).block=a.block:=by unfold Addr.add;split <;> rfl
def Rd (w:World) (B:Nat) (v:Value) (xs:List Value):Prop:=
 ∃ A c,v = .slice A xs.length c∧(0<xs.length→∃ ad,A=some ad∧ad.block<B∧∀ j u,xs[j]? = some u→w.cell? (ad.add j)=some u)
section
variable {w w':World} {B B':Nat} {v:Value} {xs:List Value}
theorem Rd.keep (h:Rd w B v xs) (hk:∀ p:Addr,p.block<B→w'.cell? p=w.cell? p):Rd w' B v xs:=by
 obtain ⟨A,c,rfl,hc⟩:=h;refine ⟨A,c,rfl,fun h0=>?_⟩;obtain ⟨ad,rfl,hb,hx⟩:=hc h0;exact ⟨ad,rfl,hb,fun j u hu=>(hk _ (by rw [qdu];exact hb)).trans (hx j u hu)⟩
theorem Rd.more (h:Rd w B v xs) (hB:B≤B'):Rd w B' v xs:=by
 obtain ⟨A,c,rfl,hc⟩:=h;refine ⟨A,c,rfl,fun h0=>?_⟩;obtain ⟨ad,rfl,hb,hx⟩:=hc h0;exact ⟨ad,rfl,by omega,hx⟩
theorem Rd.below' (h:Rd w B v xs) (hb:Below B' w w') (hB:B≤B'):Rd w' B v xs:=h.keep fun _ hp=>hb.cell (by omega)
theorem Rd.nil_ (w:World) (B:Nat) (c:Nat):Rd w B (.slice none 0 c) []:=⟨none,c,rfl,fun h=>absurd h (by simp)⟩
theorem Rd.of_own {base E n:Nat} (h:w.ownsRow base E 1 v n xs):Rd w w.heap.size v xs:=by
 obtain ⟨hl,h⟩:=h;rw [Nat.mul_one] at hl;rcases h with ⟨rfl,rfl⟩ | ⟨g,cap,cur,rfl,_,hh,hn,_,hcur,htake⟩
 ·have:xs=[]:=List.eq_nil_of_length_eq_zero hl;subst this;exact Rd.nil_ w _ 0
 ·refine ⟨some ⟨g,0,none⟩,cap,by rw [hl],fun _=>⟨_,rfl,?_,fun j u hu=>?_⟩⟩
  ·show g<w.heap.size;rcases Nat.lt_or_ge g w.heap.size with hlt | hge
   ·exact hlt
   ·rw [Array.getElem?_eq_none hge] at hh;cases hh
  ·have hp:(⟨g,0,none⟩:Addr).add j=⟨g,j,none⟩:=by unfold Addr.add;split <;> simp_all
   rw [hp,←htake] at *;have hcj:cur[j]? = some u:=by
    rw [List.getElem?_take] at hu;split at hu
    ·simpa using hu
    ·cases hu
   simp [World.cell?,hh,hcj]
theorem Rd.conv {P:Program} {S E D:TypeId} {l:List UInt8} (h:Rd w B v (Lib.byteCells l)) (hs:P.underlying S=some (.slice E)) (he:P.underlying E=some (.int .u8)) (hd:P.underlying D=some .string) :
  (convert S D v).run P w = .ok (.string ⟨l.toArray⟩) w:=by
 obtain ⟨A,c,rfl,hc⟩:=h;by_cases h0:0<(Lib.byteCells l).length
 ·obtain ⟨ad,rfl,_,hx⟩:=hc h0;have hl:(loadCells ad (Lib.byteCells l).length).run P w = .ok ((l.map fun b=>(b.toNat:Int)).map (Value.int .u8)).toArray w:=by
   have:=run_loadCells_list (P:=P) w ad (Lib.byteCells l) hx;rw [List.map_map];simpa [Lib.byteCells,Function.comp_def] using this
  rw [run_convert_bytes_string w S D E _ _ c hs he hd,run_bytesToString w _ _ c _ hl,foldl_push_bytes];have e:(l.map fun b=>(b.toNat:Int)).map (fun n=>UInt8.ofNat n.toNat)=l:=by
   rw [List.map_map];conv=>rhs;rw [←List.map_id l]
   exact List.map_congr_left fun x _=>by simp
  rw [e];simp [ByteArray.empty,ByteArray.emptyWithCapacity];rfl
 ·have:l=[]:=by
   cases l with
   | nil=>rfl
   | cons a r=>exact absurd (by simp [Lib.byteCells]) h0
  subst this;cases A with
  | none=>exact run_convert_bytes_nil w S E hs he _ c D hd
  | some ad=>
   have hl:(loadCells ad 0).run P w = .ok (([]:List Int).map (Value.int .u8)).toArray w:=by
    simpa using run_loadCells_list (P:=P) w ad [] (by simp)
   rw [run_convert_bytes_string w S D E _ _ c hs he hd,show (Lib.byteCells []).length=0 from rfl,run_bytesToString w _ _ c [] hl];rfl
end
def qne (E:TypeId) (xs:List Value) (w:World) (e:Ending) (w':World):Prop:=
 ∃ v,e = .returned v∧w'.ownsRow w.heap.size E 1 v xs.length xs∧Below w.heap.size w w'
end
section
open Go.RowKit
theorem qgO {w:World} {a:Addr} {v:Value} (h:w.cell? a=some v):a.block<w.heap.size:=by
 rcases Nat.lt_or_ge a.block w.heap.size with hlt | hge
 ·exact hlt
 ·simp [World.cell?,Array.getElem?_eq_none hge] at h
end
namespace Utf
open Go.RowKit
def byt (l:List UInt8) (k:Nat):Int:=((l.getD k 0).toNat:Int)
theorem dZ (l:List UInt8) (k:Nat):0≤byt l k:=by unfold byt;omega
theorem qbB (l:List UInt8) (k:Nat):byt l k≤255:=by unfold byt;have:=(l.getD k 0).toNat_lt;omega
theorem ac (s:ByteArray):s.data.toList.length=s.size:=rfl
theorem aY (s:ByteArray) (k:Nat) (h:k<s.size):byt s.data.toList k=(s[k].toNat:Int):=by
 unfold byt;rw [List.getD_eq_getElem?_getD,List.getElem?_eq_getElem (by simpa using h)];rfl
theorem aX {a b:Bool} (h:a=b):Ending.returned (.bool a) = .returned (.bool b):=by rw [h]
theorem qdy {k:IntKind} {a b:Int} (h:a=b):Ending.returned (.int k a) = .returned (.int k b):=by rw [h]
def aa (l:List UInt8):ByteArray:=⟨l.toArray⟩
theorem ao (l:List UInt8):(aa l).data.toList=l:=rfl
theorem ah (l:List UInt8):(aa l).toList=l:=by rw [ByteArray.toList_eq];rfl
theorem ai (l:List UInt8):(aa l).size=l.length:=rfl
def qbu (v:Value) (w:World) (e:Ending) (w':World):Prop:=e = .returned v∧Below w.heap.size w w'
def da (E:TypeId) (B:Nat) (xs:List Value) (w:World) (e:Ending) (w':World):Prop:=
 ∃ v,e = .returned v∧w'.ownsRow B E 1 v xs.length xs∧Below B w w'
theorem qmm {w:World} {E:TypeId} {xs:List Value} {cs:Array Value} {k:Nat} (h:cs.toList=xs) (hk:k=xs.length) (hm:xs.length≤maxLen) :
  qne E xs w (.returned (.slice (some ⟨w.heap.size,0,none⟩) k k)) (w.alloc (.cells cs E)):=by
 subst hk;refine ⟨_,rfl,⟨by simp,.inr ⟨_,_,cs,rfl,Nat.le_refl _,heap_alloc_new w _,Nat.le_refl _,hm,?_,?_⟩⟩,(Below.refl _ _).alloc (Nat.le_refl _) _⟩
 ·rw [←h];simp
 ·rw [←h];exact List.take_of_length_le (by simp)
theorem dn:(Tryz.prog.info? 5).map (fun i=>(i.zero,i.size,i.bytes))=some (some (.int .u8 0),1,1):=by kernel_rfl
theorem bk (w:World) (E:TypeId) (cs:Array Value):∀ j u,cs.toList[j]? = some u→(w.alloc (.cells cs E)).cell? ((⟨w.heap.size,0,none⟩:Addr).add j)=some u:=by
 intro j u hu;have hp:(⟨w.heap.size,0,none⟩:Addr).add j=⟨w.heap.size,j,none⟩:=by unfold Addr.add;split <;> simp_all
 rw [hp];unfold World.cell?;rw [heap_alloc_new]
 simpa using hu
theorem cn {α : Type} (xs:List α) (k:Nat) (h:k<xs.length):xs.take (k+1)=xs.take k++[xs[k]]:=by
 rw [List.take_succ_eq_append_getElem h]
theorem bt {w w':World} {base E size n:Nat} {v:Value} {xs:List Value} (h:w.ownsRow base E size v n xs) (hb:Below w.heap.size w w'):w'.ownsRow base E size v n xs:=by
 have hlt:=h.lt;obtain ⟨hl,h⟩:=h;refine ⟨hl,?_⟩;rcases h with h | ⟨g,cap,cur,rfl,h1,h2,h3⟩
 ·exact .inl h
 ·exact .inr ⟨g,cap,cur,rfl,h1,(hb.block g (hlt g rfl).2).trans h2,h3⟩
end Utf
namespace Nu
open Go.RowKit Utf
def dg (m:Nat):UInt8:=UInt8.ofNat (48+m % 10)
theorem qrP (m:Nat):(dg m).toNat=48+m % 10:=by unfold dg;simp;omega
def qdo:Nat→Nat→List UInt8
 | 0,_=>[]
 | f+1,m=>if m<10 then [dg m] else qdo f (m / 10)++[dg m]
def qbm (m:Nat):List UInt8:=qdo 20 m
def qjm (m:Nat):List UInt8:=if m=0 then [] else qbm m
def qbn (n:Int):List UInt8:=if n<0 then 45::qbm n.natAbs else qbm n.natAbs
theorem qmF (f:Nat):∀ m,m<10 ^ f→0<f→qdo (f+1) m=qdo f m:=by
 induction f with
 | zero=>intro m _ h;omega
 | succ f ih=>
  intro m hm _;rw [qdo]
  conv=>rhs;rw [qdo]
  by_cases h10:m<10
  ·rw [if_pos h10,if_pos h10]
  ·rw [if_neg h10,if_neg h10];have h1:m / 10<10 ^ f:=by
    rw [Nat.pow_succ] at hm;omega
   have hf:0<f:=by
    rcases Nat.eq_zero_or_pos f with rfl | h
    ·simp at hm;omega
    ·exact h
   rw [ih _ h1 hf]
theorem qoZ {m:Nat} (h:m<10):qbm m=[dg m]:=by rw [qbm,qdo,if_pos h]
theorem qlD {m:Nat} (h:¬m<10) (hm:m<10 ^ 20):qbm m=qbm (m / 10)++[dg m]:=by
 rw [qbm,qdo,if_neg h,qbm,qmF 19 (m / 10) (by omega) (by omega)]
theorem qsh {m:Nat} (hm:m<10 ^ 20):qbm m=qjm (m / 10)++[dg m]:=by
 by_cases h:m<10
 ·rw [qoZ h,qjm,if_pos (by omega)];rfl
 ·rw [qlD h hm,qjm,if_neg (by omega)]
theorem qpk {m:Nat} (h:m≠0):qjm m=qbm m:=by rw [qjm,if_neg h]
def isD (b:Int):Bool:=decide (48≤b∧b≤57)
theorem dP {b:Int} (h:isD b=true):48≤b∧b≤57:=by simpa [isD] using h
theorem qbW {l:List UInt8} {k:Nat} (h:l.length≤k):byt l k=0:=by
 unfold byt;rw [List.getD_eq_getElem?_getD,List.getElem?_eq_none h];rfl
theorem qay {l:List UInt8} {k:Nat} (h:k<l.length):byt l k=(l[k].toNat:Int):=by
 unfold byt;rw [List.getD_eq_getElem?_getD,List.getElem?_eq_getElem h];rfl
theorem qsX {l:List UInt8} {k:Nat} (h:isD (byt l k)=true):k<l.length:=by
 rcases Nat.lt_or_ge k l.length with h1 | h1
 ·exact h1
 ·rw [qbW h1] at h;exact absurd h (by decide)
def aI (l:List UInt8) (p:Nat):Nat→Nat
 | 0=>0
 | k+1=>aI l p k*10+(byt l (p+k)-48).toNat
def bm (l:List UInt8) (p:Nat):Nat→Bool
 | 0=>true
 | k+1=>bm l p k&&isD (byt l (p+k))
theorem bS (l:List UInt8) (p k:Nat):bm l p k=true↔∀ j,j<k→isD (byt l (p+j))=true:=by
 induction k with
 | zero=>simp [bm]
 | succ k ih=>
  rw [bm,Bool.and_eq_true,ih];constructor
  ·intro ⟨h1,h2⟩ j hj;rcases Nat.lt_or_ge j k with h | h
   ·exact h1 j h
   ·obtain rfl:j=k:=by omega
    exact h2
  ·intro h;exact ⟨fun j hj=>h j (by omega),h k (by omega)⟩
theorem qnA {l:List UInt8} {p k:Nat} (h:bm l p k=true) (hk:0<k):p+k≤l.length:=by
 have:=qsX ((bS l p k).1 h (k-1) (by omega));omega
def qiG:List UInt8→Nat
 | []=>0
 | b::r=>if isD (b.toNat:Int)=true then qiG r+1 else 0
theorem qfE (l:List UInt8):∀ p,bm l p (qiG (l.drop p))=true∧isD (byt l (p+qiG (l.drop p)))=false:=by
 have key:∀ (m:List UInt8),bm m 0 (qiG m)=true∧isD (byt m (qiG m))=false:=by
  intro m;induction m with
  | nil=>exact ⟨rfl,by decide⟩
  | cons b r ih=>
   have hb:byt (b::r) 0=(b.toNat:Int):=rfl;have hs:∀ k,byt (b::r) (k+1)=byt r k:=fun k=>rfl;rw [qiG];by_cases h:isD (b.toNat:Int)=true
   ·rw [if_pos h,hs];refine ⟨?_,ih.2⟩;rw [bS];intro j hj;rw [Nat.zero_add];cases j with
    | zero=>rw [hb];exact h
    | succ j=>
     rw [hs];have:=(bS _ _ _).1 ih.1 j (by omega);rwa [Nat.zero_add] at this
   ·rw [if_neg h];exact ⟨rfl,by rw [hb];simpa using h⟩
 intro p;obtain ⟨h1,h2⟩:=key (l.drop p);have hd:∀ k,byt (l.drop p) k=byt l (p+k):=by
  intro k;unfold byt;rw [List.getD_eq_getElem?_getD,List.getElem?_drop,List.getD_eq_getElem?_getD]
 rw [hd] at h2;refine ⟨?_,h2⟩;rw [bS] at h1 ⊢;intro j hj;have:=h1 j hj;rwa [hd,Nat.zero_add] at this
def de (l:List UInt8) (p:Nat):Nat:=qiG (l.drop p)
theorem qkq {l:List UInt8} {p k:Nat} (h:bm l p k=true) (hn:isD (byt l (p+k))=false):de l p=k:=by
 obtain ⟨h1,h2⟩:=qfE l p;unfold de;rcases Nat.lt_trichotomy (qiG (l.drop p)) k with h3 | h3 | h3
 ·have:=(bS _ _ _).1 h _ h3;rw [h2] at this;cases this
 ·exact h3
 ·have:=(bS _ _ _).1 h1 _ h3;rw [hn] at this;cases this
theorem qlN (l:List UInt8) (p:Nat):bm l p (de l p)=true:=(qfE l p).1
theorem qkH (l:List UInt8) (p:Nat) (h:p≤l.length):p+de l p≤l.length:=by
 rcases Nat.eq_zero_or_pos (de l p) with h0 | h0
 ·omega
 ·exact qnA (qlN l p) h0
def qe9:Nat:=9007199254740991
def bM (l:List UInt8) (p:Nat):Nat:=if byt l p=45 then p+1 else p
def ca (l:List UInt8) (f r:Nat):Prop:=r=0∨qe9<aI l f r∨(1<r∧byt l f=48)∨(byt l (f+r)=46∨byt l (f+r)=101∨byt l (f+r)=69)
instance (l:List UInt8) (f r:Nat):Decidable (ca l f r):=by unfold ca;infer_instance
def rdN (l:List UInt8) (p:Nat):Int×Int×Int:=
 if ca l (bM l p) (de l (bM l p)) then (0,p,30)
 else ((if byt l p=45 then -(aI l (bM l p) (de l (bM l p)):Int) else (aI l (bM l p) (de l (bM l p)):Int)),(bM l p+de l (bM l p):Nat),0)
def rdS (l:List UInt8) (a:Int):Int×Int×Int:=if a<0∨(l.length:Int)≤a then (0,a,30) else rdN l a.toNat
theorem qmZ (l:List UInt8) (p:Nat) (h:p<l.length):p≤bM l p∧bM l p≤l.length:=by unfold bM;split <;> omega
theorem qja (l:List UInt8) (a:Int) : -(qe9:Int)≤(rdS l a).1∧(rdS l a).1≤qe9:=by
 have hm:qe9=9007199254740991:=rfl;unfold rdS;split
 ·simp [hm]
 ·unfold rdN;split
  ·simp [hm]
  ·rename_i h1 h2
   have h3:¬qe9<aI l (bM l a.toNat) (de l (bM l a.toNat)):=fun h=>h2 (.inr (.inl h));show -(qe9:Int)≤(if byt l a.toNat=45 then _ else _)∧(if byt l a.toNat=45 then _ else _)≤(qe9:Int);split <;> omega
theorem eg (b:UInt8) (t:List UInt8):byt (b::t) 0=(b.toNat:Int):=rfl
theorem qoy (m:Nat):1≤(qbm m).length:=by
 unfold qbm;rw [qdo];by_cases h:m<10
 ·rw [if_pos h];exact Nat.le_refl _
 ·rw [if_neg h,List.length_append];exact Nat.le_add_left _ _
theorem qoL (f:Nat):∀ m,(qdo f m).length≤f:=by
 induction f with
 | zero=>intro m;simp [qdo]
 | succ f ih=>
  intro m;rw [qdo];split
  ·simp
  ·have:=ih (m / 10);simp;omega
theorem qpV (m:Nat):(qbm m).length≤20:=qoL 20 m
theorem qiy (n:Int):1≤(qbn n).length∧(qbn n).length≤21:=by
 have:=qoy n.natAbs;have:=qpV n.natAbs;unfold qbn;split
 ·rw [List.length_cons];omega
 ·omega
def quA (l:List UInt8):Int×Bool:=if (rdS l 0).2.2=0∧qbn (rdS l 0).1=l then ((rdS l 0).1,true) else (0,false)
end Nu
namespace Wo
open Go.RowKit Utf Nu
def spl (c:UInt8):List UInt8→List (List UInt8)
 | []=>[[]]
 | x::r=>if x=c then []::spl c r else match spl c r with
  | []=>[[x]]
  | p::t=>(x::p)::t
theorem qeR (c:UInt8):∀ l,spl c l≠[]
 | []=>by simp [spl]
 | x::r=>by
  rw [spl];split
  ·simp
  ·split <;> simp
theorem qaT {c:UInt8}:∀ {l:List UInt8},c∉l→spl c l=[l]
 | [],_=>rfl
 | x::r,h=>by
  have h1:¬x=c:=fun e=>h (by rw [e];exact List.mem_cons_self);rw [spl,if_neg h1,qaT (fun h2=>h (List.mem_cons_of_mem _ h2))]
theorem qgV (c:UInt8):∀ a b:List UInt8,spl c (a++c::b)=spl c a++spl c b
 | [],b=>by
  show spl c (c::b)=[]::spl c b
  conv=>lhs;rw [spl,if_pos rfl]
 | x::r,b=>by
  rw [List.cons_append,spl,qgV c r b]
  conv=>rhs;rw [spl]
  by_cases h:x=c
  ·rw [if_pos h,if_pos h];rfl
  ·rw [if_neg h,if_neg h];cases hr:spl c r with
   | nil=>exact absurd hr (qeR c r)
   | cons p t=>rfl
def ltr (b:Int):Bool:=decide ((65≤b∧b≤90)∨(97≤b∧b≤122))
def nmB (b:Int):Bool:=ltr b || isD b || decide (b=33∨b=35∨b=36∨b=38∨b=45∨b=94∨b=95∨b=46∨b=43)
def nmS (l:List UInt8):Bool:=decide (1≤l.length∧l.length≤127)&&(ltr (byt l 0) || isD (byt l 0))&&l.all fun x=>nmB (x.toNat:Int)
def dG (l:List UInt8):Bool:=match spl 47 l with
 | [a,b]=>nmS a&&nmS b
 | _=>false
def qj8 (l:List UInt8):Bool:=decide (1≤l.length∧l.length≤8)&&l.all fun x=>ltr (x.toNat:Int) || isD (x.toNat:Int)
def qmj (l:List UInt8):Bool:=decide (2≤l.length∧l.length≤8)&&l.all fun x=>ltr (x.toNat:Int)
def fu (l:List UInt8):Bool:=match spl 45 l with
 | []=>true
 | p::t=>qmj p&&t.all qj8
def eS (b:Int):Bool:=decide (33≤b∧b≤126)&& !decide (b=34∨b=60∨b=62∨b=92∨b=94∨b=96∨b=123∨b=124∨b=125)
def qaU (b:Int):Bool:=ltr b || isD b || decide (b=43∨b=45∨b=46)
def qfe (l:List UInt8):Nat:=l.findIdx (· ==58)
def qeG (l:List UInt8):Bool:=decide (1≤qfe l∧qfe l+1<l.length)&&ltr (byt l 0)&&(l.take (qfe l)).all (fun x=>qaU (x.toNat:Int))&&l.all fun x=>eS (x.toNat:Int)
def qh2 (l:List UInt8):Bool:=decide (1≤qfe l∧qfe l+1<l.length)
def inS (l s:List UInt8):Bool:=decide (s≠[])&&(spl 32 l).contains s
end Wo
namespace Id
open Go.RowKit Utf Nu
def qdZ (b:Int):Bool:=decide (((65≤b∧b≤90)∨(97≤b∧b≤122)∨(48≤b∧b≤57))∨b=45∨b=95)
def isL (l:List UInt8):Bool:=decide (1≤l.length∧l.length≤255∧∀ k,k<l.length→qdZ (byt l k)=true)
theorem qsp {l:List UInt8} {k:Nat} (hk:k<l.length) (h:qdZ (byt l k)=false):isL l=false:=
 decide_eq_false fun h3=>by rw [h3.2.2 k hk] at h;cases h
theorem qkm {l:List UInt8} (h:l.length=0∨255<l.length):isL l=false:=decide_eq_false fun h3=>by omega
theorem qsv {l:List UInt8} (h:∀ k,k<l.length→qdZ (byt l k)=true):isL l=decide (1≤l.length∧l.length≤255):=by
 unfold isL;exact decide_eq_decide.2 ⟨fun h3=>⟨h3.1,h3.2.1⟩,fun h3=>⟨h3.1,h3.2,h⟩⟩
def okK (k n:Int):Prop:=(k=1∨k=2)∧0≤n∧n≤9007199254740991
instance (k n:Int):Decidable (okK k n):=by unfold okK;infer_instance
def wor (b:Int):Int:=if 48≤b∧b≤57 then b-48 else if 97≤b∧b≤118 then b-87 else 0
def isW (b:Int):Bool:=decide ((48≤b∧b≤57)∨(97≤b∧b≤118))
def qrC (l:List UInt8) (p:Nat):Nat→Int
 | 0=>0
 | k+1=>qrC l p k*32+wor (byt l (p+k))
def qub (l:List UInt8):Prop:=l.length=12∧(byt l 0=67∨byt l 0=66)∧(∀ j,j<11→isW (byt l (1+j))=true)∧qrC l 1 11≤9007199254740991
instance (l:List UInt8):Decidable (qub l):=by unfold qub;infer_instance
def qun (k:Int) (l:List UInt8):Prop:=(k=1∨k=2)∧0<l.length∧byt l 0=(if k=1 then 99 else 98)∧(quA (l.drop 1)).2=true∧0≤(quA (l.drop 1)).1
instance (k:Int) (l:List UInt8):Decidable (qun k l):=by unfold qun;infer_instance
end Id
namespace St
open Go.RowKit Utf Nu
def qdn (y:Int):Bool:=decide (y % 4=0∧y % 100≠0∨y % 400=0)
def cj (y m:Int):Int:=if m=2 then (if qdn y=true then 29 else 28) else if m=4∨m=6∨m=9∨m=11 then 30 else 31
def dj (y m d:Int):Prop:=0≤y∧y≤9999∧1≤m∧m≤12∧1≤d∧d≤cj y m
instance (y m d:Int):Decidable (dj y m d):=by unfold dj;infer_instance
theorem qbT (y m:Int):28≤cj y m∧cj y m≤31:=by
 unfold cj;split <;> split <;> omega
theorem qoW {y:Int} (h:qdn y=true):y % 4=0∧y % 100≠0∨y % 400=0:=of_decide_eq_true h
theorem qpQ {y:Int} (h:¬qdn y=true):¬(y % 4=0∧y % 100≠0∨y % 400=0):=fun h2=>h (zT h2)
def dM (y:Int):Int:=y / 400*146097+y % 400*365+((y % 400+3) / 4-(y % 400+99) / 100+(y % 400+399) / 400)
theorem qdW (y:Int):dM (y+1)=dM y+337+cj y 2:=by
 unfold dM cj;rw [if_pos rfl];split
 ·rename_i h
  have h:=qoW h;omega
 ·rename_i h
  have h:=qpQ h;omega
theorem qq9:dM 0=0:=by decide
theorem ql2:dM 10000=3652425:=by decide
theorem qdY (y:Int):∀ k:Nat,dM y+365*k≤dM (y+k)
 | 0=>by simp
 | k+1=>by
  have h1:=qdY y k;have h2:=qdW (y+k);have h3:=qbT (y+k) 2;rw [show y+((k+1:Nat):Int)=y+k+1 by omega];omega
theorem qe2 {y:Int} (h0:0≤y) (h1:y≤10000):0≤dM y∧dM y≤3652425:=by
 have a:=qdY 0 y.toNat;have b:=qdY y (10000-y).toNat;rw [show (0:Int)+(y.toNat:Int)=y by omega,qq9] at a;rw [show y+((10000-y).toNat:Int)=10000 by omega,ql2] at b;omega
def eM (y:Int):Nat→Int
 | 0=>0
 | k+1=>eM y k+cj y (k+1)
theorem qge (y:Int):eM y 12=337+cj y 2:=by
 have h:eM y 12=0+cj y 1+cj y 2+cj y 3+cj y 4+cj y 5+cj y 6+cj y 7+cj y 8+cj y 9+cj y 10+cj y 11+cj y 12:=rfl;have e:∀ m:Int,m=1∨m=3∨m=5∨m=7∨m=8∨m=10∨m=12→cj y m=31:=by
  intro m h;unfold cj;rw [if_neg (by omega),if_neg (by omega)]
 have f:∀ m:Int,m=4∨m=6∨m=9∨m=11→cj y m=30:=by
  intro m h;unfold cj;rw [if_neg (by omega),if_pos (by omega)]
 rw [h,e 1 (by omega),e 3 (by omega),f 4 (by omega),e 5 (by omega),f 6 (by omega),e 7 (by omega),e 8 (by omega),f 9 (by omega),e 10 (by omega),f 11 (by omega),e 12 (by omega)];omega
theorem qdt (y:Int) (j:Nat):∀ k:Nat,eM y j+28*k≤eM y (j+k)
 | 0=>by simp
 | k+1=>by
  have h1:=qdt y j k;have h3:=qbT y ((j+k:Nat)+1);rw [←Nat.add_assoc,eM];omega
theorem qrk (y:Int) {j k:Nat} (h:j<k):eM y j+cj y (j+1)≤eM y k:=by
 have:=qdt y (j+1) (k-(j+1));rw [show j+1+(k-(j+1))=k by omega,eM] at this;omega
theorem qpm (y:Int) (j:Nat):0≤eM y j:=by
 have:=qdt y 0 j;rw [Nat.zero_add,eM] at this;omega
def qeQ (y m d:Int):Int:=dM y+eM y (m-1).toNat+d-1
theorem qp0 {y m d:Int} (h:dj y m d):dM y≤qeQ y m d∧qeQ y m d<dM (y+1):=by
 obtain ⟨h1,h2,h3,h4,h5,h6⟩:=h;have a:=qpm y (m-1).toNat;have b:=qrk y (j:=(m-1).toNat) (k:=12) (by omega);rw [show (((m-1).toNat:Nat):Int)+1=m by omega,qge] at b;have c:=qdW y;unfold qeQ;omega
theorem qqX {y m d:Int} (h:dj y m d):0≤qeQ y m d∧qeQ y m d<3652425:=by
 have a:=qp0 h;obtain ⟨h1,h2,_⟩:=h;have b:=qe2 h1 (by omega);have c:=qe2 (y:=y+1) (by omega) (by omega);omega
def fi:List UInt8:=[48,48,48,48,45,48,48,45,48,48,84,48,48,58,48,48,58,48,48]
def qfk (k:Nat) (b:Int):Bool:=if byt fi k=48 then isD b else decide (b=byt fi k)
def frm (l:List UInt8):Bool:=decide (19≤l.length)&&(List.range 19).all fun k=>qfk k (byt l k)
theorem qk6 {l:List UInt8} (h:frm l=true):19≤l.length:=of_decide_eq_true (Bool.and_eq_true_iff.1 h).1
theorem qpg {l:List UInt8} (h:frm l=true) (k:Nat) (hk:k<19):qfk k (byt l k)=true:=List.all_eq_true.1 (Bool.and_eq_true_iff.1 h).2 k (List.mem_range.2 hk)
theorem qtd {l:List UInt8} (h:19≤l.length) (hk:∀ k,k<19→qfk k (byt l k)=true):frm l=true:=
 Bool.and_eq_true_iff.2 ⟨zT h,List.all_eq_true.2 fun k hm=>hk k (List.mem_range.1 hm)⟩
theorem qsq {l:List UInt8} {k:Nat} (hk:k<19) (h:qfk k (byt l k)=false):frm l=false:=
 Bool.eq_false_iff.2 fun h2=>by rw [qpg h2 k hk] at h;cases h
theorem qmN {l:List UInt8} (h:l.length<19):frm l=false:=Bool.eq_false_iff.2 fun h2=>by have:=qk6 h2;omega
def dgp (k:Nat):Bool:=(byt fi k==48)
theorem qqS {l:List UInt8} (h:frm l=true) (k:Nat) (hk:k<19) (hd:dgp k=true):isD (byt l k)=true:=by
 have:=qpg h k hk;unfold qfk at this;rwa [if_pos (by simpa [dgp] using hd)] at this
theorem qoh {l:List UInt8} (h:frm l=true):bm l 0 4=true∧bm l 5 2=true∧bm l 8 2=true∧bm l 11 2=true∧bm l 14 2=true∧bm l 17 2=true:=by
 have d:=qqS h;refine ⟨?_,?_,?_,?_,?_,?_⟩ <;> simp only [bm,Nat.add_zero,Nat.zero_add,Bool.true_and,Bool.and_eq_true]
 ·exact ⟨⟨⟨d 0 (by omega) rfl,d 1 (by omega) rfl⟩,d 2 (by omega) rfl⟩,d 3 (by omega) rfl⟩
 ·exact ⟨d 5 (by omega) rfl,d 6 (by omega) rfl⟩
 ·exact ⟨d 8 (by omega) rfl,d 9 (by omega) rfl⟩
 ·exact ⟨d 11 (by omega) rfl,d 12 (by omega) rfl⟩
 ·exact ⟨d 14 (by omega) rfl,d 15 (by omega) rfl⟩
 ·exact ⟨d 17 (by omega) rfl,d 18 (by omega) rfl⟩
def fc (l:List UInt8) (p:Nat):Bool:=decide ((l.length=p+1∧byt l p=90)∨(p+3≤l.length∧l.length≤p+11∧byt l p=46∧byt l (l.length-1)=90∧byt l (l.length-2)≠48∧bm l (p+1) (l.length-(p+2))=true))
theorem dq (l:List UInt8) (p k:Nat):byt (l.drop p) k=byt l (p+k):=by
 unfold byt;rw [List.getD_eq_getElem?_getD,List.getElem?_drop,List.getD_eq_getElem?_getD]
theorem qeM (l:List UInt8) (p q:Nat):∀ k,bm (l.drop p) q k=bm l (p+q) k
 | 0=>rfl
 | k+1=>by rw [bm,bm,qeM l p q k,dq,Nat.add_assoc]
theorem qlg (l:List UInt8) (h:19≤l.length):fc (l.drop 19) 0=fc l 19:=by
 unfold fc;rw [List.length_drop,dq,dq,dq,qeM];refine decide_eq_decide.2 ?_;by_cases h2:22≤l.length
 ·rw [show 19+(l.length-19-1)=l.length-1 by omega,show 19+(l.length-19-2)=l.length-2 by omega,show l.length-19-(0+2)=l.length-(19+2) by omega];simp only [Nat.zero_add,Nat.add_zero];constructor
  ·rintro (⟨h3,h4⟩ | ⟨h3,h4,h5⟩)
   ·exact absurd h3 (by omega)
   ·exact .inr ⟨by omega,by omega,h5⟩
  ·rintro (⟨h3,h4⟩ | ⟨h3,h4,h5⟩)
   ·exact absurd h3 (by omega)
   ·exact .inr ⟨by omega,by omega,h5⟩
 ·constructor
  ·rintro (⟨h3,h4⟩ | ⟨h3,h4,h5⟩)
   ·exact .inl ⟨by omega,h4⟩
   ·exact absurd h3 (by omega)
  ·rintro (⟨h3,h4⟩ | ⟨h3,h4,h5⟩)
   ·exact .inl ⟨by omega,h4⟩
   ·exact absurd h3 (by omega)
def cM (l:List UInt8):Prop:=frm l=true∧fc l 19=true∧dj (aI l 0 4) (aI l 5 2) (aI l 8 2)∧aI l 11 2≤23∧aI l 14 2≤59∧aI l 17 2≤59
instance (l:List UInt8):Decidable (cM l):=by unfold cM;infer_instance
def qit (l:List UInt8):Int:=(qeQ (aI l 0 4) (aI l 5 2) (aI l 8 2)-719528)*86400+((aI l 11 2:Int)*60+aI l 14 2)*60+aI l 17 2
def qpz (l:List UInt8):Int:=if cM l then qit l else 0
theorem qeN (l:List UInt8) (p:Nat) (h:bm l p 2=true):aI l p 2≤99∧(aI l p 2:Int)=(byt l p-48)*10+(byt l (p+1)-48):=by
 simp only [bm,Nat.add_zero,Bool.true_and,Bool.and_eq_true] at h;have a:=dP h.1;have b:=dP h.2;simp only [aI,Nat.add_zero];omega
theorem qtI (l:List UInt8) (p:Nat) (h:bm l p 4=true):aI l p 4≤9999∧(aI l p 4:Int)=(byt l p-48)*1000+(byt l (p+1)-48)*100+(byt l (p+2)-48)*10+(byt l (p+3)-48):=by
 simp only [bm,Nat.add_zero,Bool.true_and,Bool.and_eq_true] at h;have a:=dP h.1.1.1;have b:=dP h.1.1.2;have c:=dP h.1.2;have d:=dP h.2;simp only [aI,Nat.add_zero];omega
