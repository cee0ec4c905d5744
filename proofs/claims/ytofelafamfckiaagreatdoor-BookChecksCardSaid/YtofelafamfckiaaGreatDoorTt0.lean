/- Merged: Base NuPl WoPl IdPl StPl StPl2. -/
import Derived.Test.YtofelafamfckiaaGreatDoorTtMv
import Derived.Test.YtofelafamfckiaaGreatDoorProg
import Derived.Below
import Derived.Laws.OwnMore
import Derived.Laws.BytesArg
import Derived.Deep.Draws
import Derived.Lib.UnsafeStr
import Derived.Lib.Hide
import Derived.WalkKit
import Derived.Laws.AppendOwn
import Derived.Laws.BytesString
import Derived.Lib.Strings
import Derived.OpenShut
namespace Go.Proofs.YtofelafamfckiaaGreatDoor
section
open Go.RowKit
theorem qbM (a:Addr) (n:Nat):(a.add n).block=a.block:=by unfold Addr.add;split <;> rfl
def Rd (w:World) (B:Nat) (v:Value) (xs:List Value):Prop:=
 ∃ A c,v = .slice A xs.length c∧(0<xs.length→∃ ad,A=some ad∧ad.block<B∧∀ j u,xs[j]? = some u→w.cell? (ad.add j)=some u)
section
variable {w w':World} {B B':Nat} {v:Value} {xs:List Value}
theorem Rd.keep (h:Rd w B v xs) (hk:∀ p:Addr,p.block<B→w'.cell? p=w.cell? p):Rd w' B v xs:=by
 obtain ⟨A,c,rfl,hc⟩:=h;refine ⟨A,c,rfl,fun h0=>?_⟩;obtain ⟨ad,rfl,hb,hx⟩:=hc h0;exact ⟨ad,rfl,hb,fun j u hu=>(hk _ (by rw [qbM];exact hb)).trans (hx j u hu)⟩
theorem Rd.more (h:Rd w B v xs) (hB:B≤B'):Rd w B' v xs:=by
 obtain ⟨A,c,rfl,hc⟩:=h;refine ⟨A,c,rfl,fun h0=>?_⟩;obtain ⟨ad,rfl,hb,hx⟩:=hc h0;exact ⟨ad,rfl,by omega,hx⟩
theorem Rd.below' (h:Rd w B v xs) (hb:Below B' w w') (hB:B≤B'):Rd w' B v xs:=h.keep fun _ hp=>hb.cell (by omega)
theorem Rd.nil_ (w:World) (B:Nat) (c:Nat):Rd w B (.slice none 0 c) []:=⟨none,c,rfl,fun h=>absurd h (by simp)⟩
theorem Rd.of_own {base E n:Nat} (h:w.ownsRow base E 1 v n xs):Rd w w.heap.size v xs:=by
 obtain ⟨hl,h⟩:=h;rw [Nat.mul_one] at hl;rcases h with ⟨rfl,rfl⟩ | ⟨g,cap,cur,rfl,_,hh,hn,_,hcur,htake⟩
 ·have:xs=[]:=List.eq_nil_of_length_eq_zero hl;subst this;exact Rd.nil_ w _ 0
 ·refine ⟨some ⟨g,0,none⟩,cap,by rw [hl],fun _=>⟨_,rfl,?_,fun j u hu=>?_⟩⟩
  ·show g<w.heap.size;rcases Nat.lt_or_ge g w.heap.size with hlt | hge
   ·exact hlt
   ·rw [Array.getElem?_eq_none hge] at hh;cases hh
  ·have hp:(⟨g,0,none⟩:Addr).add j=⟨g,j,none⟩:=by unfold Addr.add;split <;> simp_all
   rw [hp,←htake] at *;have hcj:cur[j]? = some u:=by
    rw [List.getElem?_take] at hu;split at hu
    ·simpa using hu
    ·cases hu
   simp [World.cell?,hh,hcj]
theorem Rd.conv {P:Program} {S E D:TypeId} {l:List UInt8} (h:Rd w B v (Lib.byteCells l)) (hs:P.underlying S=some (.slice E)) (he:P.underlying E=some (.int .u8)) (hd:P.underlying D=some .string) :
  (convert S D v).run P w = .ok (.string ⟨l.toArray⟩) w:=by
 obtain ⟨A,c,rfl,hc⟩:=h;by_cases h0:0<(Lib.byteCells l).length
 ·obtain ⟨ad,rfl,_,hx⟩:=hc h0;have hl:(loadCells ad (Lib.byteCells l).length).run P w = .ok ((l.map fun b=>(b.toNat:Int)).map (Value.int .u8)).toArray w:=by
   have:=run_loadCells_list (P:=P) w ad (Lib.byteCells l) hx;rw [List.map_map];simpa [Lib.byteCells,Function.comp_def] using this
  rw [run_convert_bytes_string w S D E _ _ c hs he hd,run_bytesToString w _ _ c _ hl,foldl_push_bytes];have e:(l.map fun b=>(b.toNat:Int)).map (fun n=>UInt8.ofNat n.toNat)=l:=by
   rw [List.map_map];conv=>rhs;rw [←List.map_id l]
   exact List.map_congr_left fun x _=>by simp
  rw [e];simp [ByteArray.empty,ByteArray.emptyWithCapacity];rfl
 ·have:l=[]:=by
   cases l with
   | nil=>rfl
   | cons a r=>exact absurd (by simp [Lib.byteCells]) h0
  subst this;cases A with
  | none=>exact run_convert_bytes_nil w S E hs he _ c D hd
  | some ad=>
   have hl:(loadCells ad 0).run P w = .ok (([]:List Int).map (Value.int .u8)).toArray w:=by
    simpa using run_loadCells_list (P:=P) w ad [] (by simp)
   rw [run_convert_bytes_string w S D E _ _ c hs he hd,show (Lib.byteCells []).length=0 from rfl,run_bytesToString w _ _ c [] hl];rfl
end
def qjl (E:TypeId) (xs:List Value) (w:World) (e:Ending) (w':World):Prop:=
 ∃ v,e = .returned v∧w'.ownsRow w.heap.size E 1 v xs.length xs∧Below w.heap.size w w'
end
section
open Go.RowKit
theorem qg8 {w:World} {a:Addr} {v:Value} (h:w.cell? a=some v):a.block<w.heap.size:=by
 rcases Nat.lt_or_ge a.block w.heap.size with hlt | hge
 ·exact hlt
 ·simp [World.cell?,Array.getElem?_eq_none hge] at h
end
namespace Utf
open Go.RowKit
def byt (l:List UInt8) (k:Nat):Int:=((l.getD k 0).toNat:Int)
theorem qaj (l:List UInt8) (k:Nat):0≤byt l k:=by unfold byt;omega
theorem qcF (l:List UInt8) (k:Nat):byt l k≤255:=by unfold byt;have:=(l.getD k 0).toNat_lt;omega
theorem ai (s:ByteArray):s.data.toList.length=s.size:=rfl
theorem bf (s:ByteArray) (k:Nat) (h:k<s.size):byt s.data.toList k=(s[k].toNat:Int):=by
 unfold byt;rw [List.getD_eq_getElem?_getD,List.getElem?_eq_getElem (by simpa using h)];rfl
theorem bS {a b:Bool} (h:a=b):Ending.returned (.bool a) = .returned (.bool b):=by rw [h]
theorem qcw {k:IntKind} {a b:Int} (h:a=b):Ending.returned (.int k a) = .returned (.int k b):=by rw [h]
def ae (l:List UInt8):ByteArray:=⟨l.toArray⟩
theorem qak (l:List UInt8):(ae l).data.toList=l:=rfl
theorem ay (l:List UInt8):(ae l).toList=l:=by rw [ByteArray.toList_eq];rfl
theorem aJ (l:List UInt8):(ae l).size=l.length:=rfl
def qcp (v:Value) (w:World) (e:Ending) (w':World):Prop:=e = .returned v∧Below w.heap.size w w'
def bU (E:TypeId) (B:Nat) (xs:List Value) (w:World) (e:Ending) (w':World):Prop:=
 ∃ v,e = .returned v∧w'.ownsRow B E 1 v xs.length xs∧Below B w w'
theorem qhv {w:World} {E:TypeId} {xs:List Value} {cs:Array Value} {k:Nat} (h:cs.toList=xs) (hk:k=xs.length) (hm:xs.length≤maxLen) :
  qjl E xs w (.returned (.slice (some ⟨w.heap.size,0,none⟩) k k)) (w.alloc (.cells cs E)):=by
 subst hk;refine ⟨_,rfl,⟨by simp,.inr ⟨_,_,cs,rfl,Nat.le_refl _,heap_alloc_new w _,Nat.le_refl _,hm,?_,?_⟩⟩,(Below.refl _ _).alloc (Nat.le_refl _) _⟩
 ·rw [←h];simp
 ·rw [←h];exact List.take_of_length_le (by simp)
theorem b8:(Tryz.prog.info? 5).map (fun i=>(i.zero,i.size,i.bytes))=some (some (.int .u8 0),1,1):=by kernel_rfl
theorem aN (w:World) (E:TypeId) (cs:Array Value):∀ j u,cs.toList[j]? = some u→(w.alloc (.cells cs E)).cell? ((⟨w.heap.size,0,none⟩:Addr).add j)=some u:=by
 intro j u hu;have hp:(⟨w.heap.size,0,none⟩:Addr).add j=⟨w.heap.size,j,none⟩:=by unfold Addr.add;split <;> simp_all
 rw [hp];unfold World.cell?;rw [heap_alloc_new]
 simpa using hu
theorem cS {α : Type} (xs:List α) (k:Nat) (h:k<xs.length):xs.take (k+1)=xs.take k++[xs[k]]:=by
 rw [List.take_succ_eq_append_getElem h]
theorem aH {w w':World} {base E size n:Nat} {v:Value} {xs:List Value} (h:w.ownsRow base E size v n xs) (hb:Below w.heap.size w w'):w'.ownsRow base E size v n xs:=by
 have hlt:=h.lt;obtain ⟨hl,h⟩:=h;refine ⟨hl,?_⟩;rcases h with h | ⟨g,cap,cur,rfl,h1,h2,h3⟩
 ·exact .inl h
 ·exact .inr ⟨g,cap,cur,rfl,h1,(hb.block g (hlt g rfl).2).trans h2,h3⟩
end Utf
namespace Nu
open Go.RowKit Utf
def dg (m:Nat):UInt8:=UInt8.ofNat (48+m % 10)
theorem qlG (m:Nat):(dg m).toNat=48+m % 10:=by unfold dg;simp;omega
def qcr:Nat→Nat→List UInt8
 | 0,_=>[]
 | f+1,m=>if m<10 then [dg m] else qcr f (m / 10)++[dg m]
def qa8 (m:Nat):List UInt8:=qcr 20 m
def qgp (m:Nat):List UInt8:=if m=0 then [] else qa8 m
def qa9 (n:Int):List UInt8:=if n<0 then 45::qa8 n.natAbs else qa8 n.natAbs
theorem qic (f:Nat):∀ m,m<10 ^ f→0<f→qcr (f+1) m=qcr f m:=by
 induction f with
 | zero=>intro m _ h;omega
 | succ f ih=>
  intro m hm _;rw [qcr]
  conv=>rhs;rw [qcr]
  by_cases h10:m<10
  ·rw [if_pos h10,if_pos h10]
  ·rw [if_neg h10,if_neg h10];have h1:m / 10<10 ^ f:=by
    rw [Nat.pow_succ] at hm;omega
   have hf:0<f:=by
    rcases Nat.eq_zero_or_pos f with rfl | h
    ·simp at hm;omega
    ·exact h
   rw [ih _ h1 hf]
theorem qiR {m:Nat} (h:m<10):qa8 m=[dg m]:=by rw [qa8,qcr,if_pos h]
theorem qhW {m:Nat} (h:¬m<10) (hm:m<10 ^ 20):qa8 m=qa8 (m / 10)++[dg m]:=by
 rw [qa8,qcr,if_neg h,qa8,qic 19 (m / 10) (by omega) (by omega)]
theorem qlK {m:Nat} (hm:m<10 ^ 20):qa8 m=qgp (m / 10)++[dg m]:=by
 by_cases h:m<10
 ·rw [qiR h,qgp,if_pos (by omega)];rfl
 ·rw [qhW h hm,qgp,if_neg (by omega)]
theorem qjR {m:Nat} (h:m≠0):qgp m=qa8 m:=by rw [qgp,if_neg h]
def isD (b:Int):Bool:=decide (48≤b∧b≤57)
theorem qkx {b:Int} (h:isD b=true):48≤b∧b≤57:=by simpa [isD] using h
theorem qbS {l:List UInt8} {k:Nat} (h:l.length≤k):byt l k=0:=by
 unfold byt;rw [List.getD_eq_getElem?_getD,List.getElem?_eq_none h];rfl
theorem qly {l:List UInt8} {k:Nat} (h:isD (byt l k)=true):k<l.length:=by
 rcases Nat.lt_or_ge k l.length with h1 | h1
 ·exact h1
 ·rw [qbS h1] at h;exact absurd h (by decide)
def bJ (l:List UInt8) (p:Nat):Nat→Nat
 | 0=>0
 | k+1=>bJ l p k*10+(byt l (p+k)-48).toNat
def qan (l:List UInt8) (p:Nat):Nat→Bool
 | 0=>true
 | k+1=>qan l p k&&isD (byt l (p+k))
theorem cH (l:List UInt8) (p k:Nat):qan l p k=true↔∀ j,j<k→isD (byt l (p+j))=true:=by
 induction k with
 | zero=>simp [qan]
 | succ k ih=>
  rw [qan,Bool.and_eq_true,ih];constructor
  ·intro ⟨h1,h2⟩ j hj;rcases Nat.lt_or_ge j k with h | h
   ·exact h1 j h
   ·obtain rfl:j=k:=by omega
    exact h2
  ·intro h;exact ⟨fun j hj=>h j (by omega),h k (by omega)⟩
theorem qjZ {l:List UInt8} {p k:Nat} (h:qan l p k=true) (hk:0<k):p+k≤l.length:=by
 have:=qly ((cH l p k).1 h (k-1) (by omega));omega
def qfL:List UInt8→Nat
 | []=>0
 | b::r=>if isD (b.toNat:Int)=true then qfL r+1 else 0
theorem qdR (l:List UInt8):∀ p,qan l p (qfL (l.drop p))=true∧isD (byt l (p+qfL (l.drop p)))=false:=by
 have key:∀ (m:List UInt8),qan m 0 (qfL m)=true∧isD (byt m (qfL m))=false:=by
  intro m;induction m with
  | nil=>exact ⟨rfl,by decide⟩
  | cons b r ih=>
   have hb:byt (b::r) 0=(b.toNat:Int):=rfl;have hs:∀ k,byt (b::r) (k+1)=byt r k:=fun k=>rfl;rw [qfL];by_cases h:isD (b.toNat:Int)=true
   ·rw [if_pos h,hs];refine ⟨?_,ih.2⟩;rw [cH];intro j hj;rw [Nat.zero_add];cases j with
    | zero=>rw [hb];exact h
    | succ j=>
     rw [hs];have:=(cH _ _ _).1 ih.1 j (by omega);rwa [Nat.zero_add] at this
   ·rw [if_neg h];exact ⟨rfl,by rw [hb];simpa using h⟩
 intro p;obtain ⟨h1,h2⟩:=key (l.drop p);have hd:∀ k,byt (l.drop p) k=byt l (p+k):=by
  intro k;unfold byt;rw [List.getD_eq_getElem?_getD,List.getElem?_drop,List.getD_eq_getElem?_getD]
 rw [hd] at h2;refine ⟨?_,h2⟩;rw [cH] at h1 ⊢;intro j hj;have:=h1 j hj;rwa [hd,Nat.zero_add] at this
def bV (l:List UInt8) (p:Nat):Nat:=qfL (l.drop p)
theorem qgO {l:List UInt8} {p k:Nat} (h:qan l p k=true) (hn:isD (byt l (p+k))=false):bV l p=k:=by
 obtain ⟨h1,h2⟩:=qdR l p;unfold bV;rcases Nat.lt_trichotomy (qfL (l.drop p)) k with h3 | h3 | h3
 ·have:=(cH _ _ _).1 h _ h3;rw [h2] at this;cases this
 ·exact h3
 ·have:=(cH _ _ _).1 h1 _ h3;rw [hn] at this;cases this
theorem qhx (l:List UInt8) (p:Nat):qan l p (bV l p)=true:=(qdR l p).1
theorem qgC (l:List UInt8) (p:Nat) (h:p≤l.length):p+bV l p≤l.length:=by
 rcases Nat.eq_zero_or_pos (bV l p) with h0 | h0
 ·omega
 ·exact qjZ (qhx l p) h0
def qdB:Nat:=9007199254740991
def bg (l:List UInt8) (p:Nat):Nat:=if byt l p=45 then p+1 else p
def qct (l:List UInt8) (f r:Nat):Prop:=r=0∨qdB<bJ l f r∨(1<r∧byt l f=48)∨(byt l (f+r)=46∨byt l (f+r)=101∨byt l (f+r)=69)
instance (l:List UInt8) (f r:Nat):Decidable (qct l f r):=by unfold qct;infer_instance
def rdN (l:List UInt8) (p:Nat):Int×Int×Int:=
 if qct l (bg l p) (bV l (bg l p)) then (0,p,30)
 else ((if byt l p=45 then -(bJ l (bg l p) (bV l (bg l p)):Int) else (bJ l (bg l p) (bV l (bg l p)):Int)),(bg l p+bV l (bg l p):Nat),0)
def rdS (l:List UInt8) (a:Int):Int×Int×Int:=if a<0∨(l.length:Int)≤a then (0,a,30) else rdN l a.toNat
theorem qj7 (l:List UInt8) (p:Nat) (h:p<l.length):p≤bg l p∧bg l p≤l.length:=by unfold bg;split <;> omega
theorem qgd (l:List UInt8) (a:Int) : -(qdB:Int)≤(rdS l a).1∧(rdS l a).1≤qdB:=by
 have hm:qdB=9007199254740991:=rfl;unfold rdS;split
 ·simp [hm]
 ·unfold rdN;split
  ·simp [hm]
  ·rename_i h1 h2
   have h3:¬qdB<bJ l (bg l a.toNat) (bV l (bg l a.toNat)):=fun h=>h2 (.inr (.inl h));show -(qdB:Int)≤(if byt l a.toNat=45 then _ else _)∧(if byt l a.toNat=45 then _ else _)≤(qdB:Int);split <;> omega
theorem qjz (m:Nat):1≤(qa8 m).length:=by
 unfold qa8;rw [qcr];by_cases h:m<10
 ·rw [if_pos h];exact Nat.le_refl _
 ·rw [if_neg h,List.length_append];exact Nat.le_add_left _ _
theorem qi6 (f:Nat):∀ m,(qcr f m).length≤f:=by
 induction f with
 | zero=>intro m;simp [qcr]
 | succ f ih=>
  intro m;rw [qcr];split
  ·simp
  ·have:=ih (m / 10);simp;omega
theorem qkC (m:Nat):(qa8 m).length≤20:=qi6 20 m
theorem qfr (n:Int):1≤(qa9 n).length∧(qa9 n).length≤21:=by
 have:=qjz n.natAbs;have:=qkC n.natAbs;unfold qa9;split
 ·rw [List.length_cons];omega
 ·omega
def qmK (l:List UInt8):Int×Bool:=if (rdS l 0).2.2=0∧qa9 (rdS l 0).1=l then ((rdS l 0).1,true) else (0,false)
end Nu
namespace Wo
open Go.RowKit Utf Nu
def spl (c:UInt8):List UInt8→List (List UInt8)
 | []=>[[]]
 | x::r=>if x=c then []::spl c r else match spl c r with
  | []=>[[x]]
  | p::t=>(x::p)::t
def ltr (b:Int):Bool:=decide ((65≤b∧b≤90)∨(97≤b∧b≤122))
def nmB (b:Int):Bool:=ltr b || isD b || decide (b=33∨b=35∨b=36∨b=38∨b=45∨b=94∨b=95∨b=46∨b=43)
def nmS (l:List UInt8):Bool:=decide (1≤l.length∧l.length≤127)&&(ltr (byt l 0) || isD (byt l 0))&&l.all fun x=>nmB (x.toNat:Int)
def qmt (l:List UInt8):Bool:=match spl 47 l with
 | [a,b]=>nmS a&&nmS b
 | _=>false
def qnE (l:List UInt8):Bool:=decide (1≤l.length∧l.length≤8)&&l.all fun x=>ltr (x.toNat:Int) || isD (x.toNat:Int)
def qnf (l:List UInt8):Bool:=decide (2≤l.length∧l.length≤8)&&l.all fun x=>ltr (x.toNat:Int)
def qmA (l:List UInt8):Bool:=match spl 45 l with
 | []=>true
 | p::t=>qnf p&&t.all qnE
def qnD (b:Int):Bool:=decide (33≤b∧b≤126)&& !decide (b=34∨b=60∨b=62∨b=92∨b=94∨b=96∨b=123∨b=124∨b=125)
def qnq (b:Int):Bool:=ltr b || isD b || decide (b=43∨b=45∨b=46)
def qih (l:List UInt8):Nat:=l.findIdx (· ==58)
def qnr (l:List UInt8):Bool:=decide (1≤qih l∧qih l+1<l.length)&&ltr (byt l 0)&&(l.take (qih l)).all (fun x=>qnq (x.toNat:Int))&&l.all fun x=>qnD (x.toNat:Int)
def qns (l:List UInt8):Bool:=decide (1≤qih l∧qih l+1<l.length)
def inS (l s:List UInt8):Bool:=decide (s≠[])&&(spl 32 l).contains s
end Wo
namespace Id
open Go.RowKit Utf Nu
def aC (b:Int):Bool:=decide (((65≤b∧b≤90)∨(97≤b∧b≤122)∨(48≤b∧b≤57))∨b=45∨b=95)
def isL (l:List UInt8):Bool:=decide (1≤l.length∧l.length≤255∧∀ k,k<l.length→aC (byt l k)=true)
def okK (k n:Int):Prop:=(k=1∨k=2)∧0≤n∧n≤9007199254740991
instance (k n:Int):Decidable (okK k n):=by unfold okK;infer_instance
def wor (b:Int):Int:=if 48≤b∧b≤57 then b-48 else if 97≤b∧b≤118 then b-87 else 0
def isW (b:Int):Bool:=decide ((48≤b∧b≤57)∨(97≤b∧b≤118))
def qlq (l:List UInt8) (p:Nat):Nat→Int
 | 0=>0
 | k+1=>qlq l p k*32+wor (byt l (p+k))
def qmP (l:List UInt8):Prop:=l.length=12∧(byt l 0=67∨byt l 0=66)∧(∀ j,j<11→isW (byt l (1+j))=true)∧qlq l 1 11≤9007199254740991
instance (l:List UInt8):Decidable (qmP l):=by unfold qmP;infer_instance
def qmG (k:Int) (l:List UInt8):Prop:=(k=1∨k=2)∧0<l.length∧byt l 0=(if k=1 then 99 else 98)∧(qmK (l.drop 1)).2=true∧0≤(qmK (l.drop 1)).1
instance (k:Int) (l:List UInt8):Decidable (qmG k l):=by unfold qmG;infer_instance
end Id
namespace St
open Go.RowKit Utf Nu
def qnk (y:Int):Bool:=decide (y % 4=0∧y % 100≠0∨y % 400=0)
def qmO (y m:Int):Int:=if m=2 then (if qnk y=true then 29 else 28) else if m=4∨m=6∨m=9∨m=11 then 30 else 31
def qjy (y m d:Int):Prop:=0≤y∧y≤9999∧1≤m∧m≤12∧1≤d∧d≤qmO y m
instance (y m d:Int):Decidable (qjy y m d):=by unfold qjy;infer_instance
def qmM (y:Int):Int:=y / 400*146097+y % 400*365+((y % 400+3) / 4-(y % 400+99) / 100+(y % 400+399) / 400)
def qm9 (y:Int):Nat→Int
 | 0=>0
 | k+1=>qm9 y k+qmO y (k+1)
def qnA (y m d:Int):Int:=qmM y+qm9 y (m-1).toNat+d-1
def qlp:List UInt8:=[48,48,48,48,45,48,48,45,48,48,84,48,48,58,48,48,58,48,48]
def qni (k:Nat) (b:Int):Bool:=if byt qlp k=48 then isD b else decide (b=byt qlp k)
def frm (l:List UInt8):Bool:=decide (19≤l.length)&&(List.range 19).all fun k=>qni k (byt l k)
def qnF (l:List UInt8) (p:Nat):Bool:=decide ((l.length=p+1∧byt l p=90)∨(p+3≤l.length∧l.length≤p+11∧byt l p=46∧byt l (l.length-1)=90∧byt l (l.length-2)≠48∧qan l (p+1) (l.length-(p+2))=true))
def qi3 (l:List UInt8):Prop:=frm l=true∧qnF l 19=true∧qjy (bJ l 0 4) (bJ l 5 2) (bJ l 8 2)∧bJ l 11 2≤23∧bJ l 14 2≤59∧bJ l 17 2≤59
instance (l:List UInt8):Decidable (qi3 l):=by unfold qi3;infer_instance
def qlc (l:List UInt8):Int:=(qnA (bJ l 0 4) (bJ l 5 2) (bJ l 8 2)-719528)*86400+((bJ l 11 2:Int)*60+bJ l 14 2)*60+bJ l 17 2
