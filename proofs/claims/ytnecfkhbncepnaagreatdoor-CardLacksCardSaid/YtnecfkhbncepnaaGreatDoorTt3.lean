/- Merged: UtfPl SmPl2. -/
import Derived.Laws.BitsLemmas
import Derived.Laws.BitsAllLaws
import Derived.Test.YtnecfkhbncepnaaGreatDoorTt1
import GoSem.Op.String
namespace Go.Proofs.YtnecfkhbncepnaaGreatDoor
namespace Utf
open Go.RowKit
def be (n:Int):Bool:=decide (0≤n∧n≤1114111∧(n<55296∨57343<n))
def cF (bits:Int) (l:List UInt8):Nat→Int
 | 0=>bits
 | k+1=>cF bits l k*64+byt l (k+1) % 64
def di (l:List UInt8):Nat→Bool
 | 0=>true
 | k+1=>di l k&&decide (byt l (k+1) / 64=2)
theorem qq0 (bits:Int) (l:List UInt8) (h0:0≤bits) (k:Nat):0≤cF bits l k:=by
 induction k with
 | zero=>exact h0
 | succ k ih=>have:=dZ l (k+1);simp only [cF];omega
theorem qnH (bits:Int) (l:List UInt8) (h1:bits≤31):cF bits l 0≤31∧cF bits l 1≤2047∧cF bits l 2≤131071∧cF bits l 3≤8388607:=by
 have a1:=dZ l 1;have a2:=dZ l 2;have a3:=dZ l 3;simp only [cF];omega
theorem qqR (bits:Int) (l:List UInt8) (h1:bits≤31) (k:Nat) (hk:k≤3):cF bits l k≤8388607:=by
 obtain ⟨a,b,c,d⟩:=qnH bits l h1;obtain rfl | rfl | rfl | rfl:k=0∨k=1∨k=2∨k=3:=by omega
 all_goals omega
def dE (l:List UInt8) (bits:Int) (n:Nat) (least:Int):Int×Int:=
 if l.length<n then (0,0) else if di l (n-1)=false then (0,0)
 else if cF bits l (n-1)<least∨be (cF bits l (n-1))=false then (0,0) else (cF bits l (n-1),n)
def aB (l:List UInt8):Int×Int:=
 if l.length=0 then (0,0)
 else if byt l 0<128 then (byt l 0,1)
 else if byt l 0<192 then (0,0)
 else if byt l 0<224 then dE l (byt l 0 % 32) 2 128
 else if byt l 0<240 then dE l (byt l 0 % 16) 3 2048
 else if byt l 0<248 then dE l (byt l 0 % 8) 4 65536
 else (0,0)
def ql1 (l:List UInt8) (at_:Int):Int×Int:=if at_<0∨(l.length:Int)≤at_ then (0,0) else aB (l.drop at_.toNat)
theorem qi0 (l:List UInt8) (b:Int) (n:Nat) (m:Int) (h:l.length<n):dE l b n m=(0,0):=by rw [dE,if_pos h]
theorem qjR (l:List UInt8) (k:Nat) (h:di l k=false):∀ n,k≤n→di l n=false:=by
 intro n hn;induction n with
 | zero=>
  obtain rfl:k=0:=by omega
  exact h
 | succ n ih=>
  by_cases e:k=n+1
  ·subst e;exact h
  ·simp [di,ih (by omega)]
theorem qmL (l:List UInt8) (b:Int) (n:Nat) (m:Int) (h:¬l.length<n) (k:Nat) (hk:k≤n-1) (h2:di l k=false):dE l b n m=(0,0):=by
 rw [dE,if_neg h,if_pos (qjR l k h2 _ hk)]
theorem qiJ (l:List UInt8) (b:Int) (k:Nat) (m:Int) (h:cF b l k<m∨be (cF b l k)=false):dE l b (k+1) m=(0,0):=by
 unfold dE;split
 ·rfl
 ·split
  ·rfl
  ·rw [Nat.add_sub_cancel,if_pos h]
theorem qqV (l:List UInt8) (b:Int) (k:Nat) (m:Int) (h:¬l.length<k+1) (hc:di l k=true) (h1:¬cF b l k<m) (h2:be (cF b l k)=true) :
  dE l b (k+1) m=(cF b l k,((k+1:Nat):Int)):=by
 unfold dE;rw [Nat.add_sub_cancel,if_neg h,if_neg (by rw [hc];decide),if_neg];rintro (a | a)
 ·exact h1 a
 ·rw [h2] at a;cases a
theorem qhz (l:List UInt8) (p:Int) (h:p<0∨(l.length:Int)≤p):ql1 l p=(0,0):=by rw [ql1,if_pos h]
theorem ct (l:List UInt8) (q k:Nat):byt (l.drop q) k=byt l (q+k):=by unfold byt;simp [List.getD_eq_getElem?_getD]
theorem qg8 (s:ByteArray) (q:Nat) (h:q<s.size):ql1 s.data.toList q=aB (s.data.toList.drop q):=by
 have:=ac s;rw [ql1,if_neg (by omega)];simp
theorem dU (l:List UInt8) (q:Nat) (h:q<l.length):¬(l.drop q).length=0:=by simp;omega
theorem qth (l:List UInt8) (q:Nat) (c:Int) (h:q<l.length) (g:byt l q=c) (h1:c<128):aB (l.drop q)=(c,1):=by
 unfold aB;rw [if_neg (dU l q h),ct,Nat.add_zero,g,if_pos h1]
theorem qr0 (l:List UInt8) (q:Nat) (c:Int) (h:q<l.length) (g:byt l q=c) (h0:128≤c) (h1:c<192):aB (l.drop q)=(0,0):=by
 unfold aB;rw [if_neg (dU l q h),ct,Nat.add_zero,g,if_neg (by omega),if_pos h1]
theorem qtc (l:List UInt8) (q:Nat) (c:Int) (h:q<l.length) (g:byt l q=c) (h0:192≤c) (h1:c<224):aB (l.drop q)=dE (l.drop q) (c % 32) 2 128:=by
 unfold aB;rw [if_neg (dU l q h),ct,Nat.add_zero,g,if_neg (by omega),if_neg (by omega),if_pos h1]
theorem qts (l:List UInt8) (q:Nat) (c:Int) (h:q<l.length) (g:byt l q=c) (h0:224≤c) (h1:c<240):aB (l.drop q)=dE (l.drop q) (c % 16) 3 2048:=by
 unfold aB;rw [if_neg (dU l q h),ct,Nat.add_zero,g,if_neg (by omega),if_neg (by omega),if_neg (by omega),if_pos h1]
theorem qr4 (l:List UInt8) (q:Nat) (c:Int) (h:q<l.length) (g:byt l q=c) (h0:240≤c) (h1:c<248):aB (l.drop q)=dE (l.drop q) (c % 8) 4 65536:=by
 unfold aB;rw [if_neg (dU l q h),ct,Nat.add_zero,g,if_neg (by omega),if_neg (by omega),if_neg (by omega),if_neg (by omega),if_pos h1]
theorem qsM (l:List UInt8) (q:Nat) (c:Int) (h:q<l.length) (g:byt l q=c) (h0:248≤c):aB (l.drop q)=(0,0):=by
 unfold aB;rw [if_neg (dU l q h),ct,Nat.add_zero,g,if_neg (by omega),if_neg (by omega),if_neg (by omega),if_neg (by omega),if_neg (by omega)]
theorem qtt (x:Int) (h0:0≤x) (h1:x≤255):bits .and .u8 x 192=x / 64*64:=by
 have h:∀ n:Fin 256,bits .and .u8 (n.val:Int) 192=(n.val:Int) / 64*64:=by decide +kernel
 have:=h ⟨x.toNat,by omega⟩
 simpa [Int.toNat_of_nonneg h0] using this
theorem qlM (x:Int) (h0:0≤x) (h1:x≤255):(bits .and .u8 x 192 != 128) = !(decide (x / 64=2)):=by
 rw [qtt x h0 h1,Bool.eq_iff_iff];simp;omega
theorem qs6 (n:Int) (h0:0≤n) (h1:n≤2147483647):bits .and .i32 n 63=n % 64:=
 bits_mask .i32 31 (by decide) wraps_i32 6 (by decide) n h0 (by omega)
def dH (n:Int):List Int:=
 if be n=false then []
 else if n<128 then [n]
 else if n<2048 then [192+n / 64,128+n % 64]
 else if n<65536 then [224+n / 4096,128+n / 64 % 64,128+n % 64]
 else [240+n / 262144,128+n / 4096 % 64,128+n / 64 % 64,128+n % 64]
def enc (n:Int):List UInt8:=(dH n).map fun x=>UInt8.ofNat x.toNat
theorem qa0 {n:Int} (h:be n=true):0≤n:=by simp [be] at h;omega
theorem qad {n:Int} (h:be n=true):n≤1114111:=by simp [be] at h;omega
theorem qgb (n:Int):∀ x∈dH n,0≤x∧x<256:=by
 intro x hx;unfold dH at hx;split at hx
 ·simp at hx
 ·have h1:=qa0 (n:=n) (by simpa using ‹¬be n=false›);have h2:=qad (n:=n) (by simpa using ‹¬be n=false›);split at hx
  ·simp at hx;omega
  ·split at hx
   ·simp at hx;omega
   ·split at hx <;> (simp at hx;omega)
theorem dy (n:Int):Lib.byteCells (enc n)=(dH n).map (Value.int .u8):=by
 simp only [Lib.byteCells,enc,List.map_map];apply List.map_congr_left;intro x hx;obtain ⟨h0,h1⟩:=qgb n x hx;simp [Function.comp];omega
theorem qqf {n:Int} (h:be n=false):dH n=[]:=by simp [dH,h]
theorem qbA {n:Int} (h:be n=true) (h1:n<128):dH n=[n]:=by simp [dH,h,h1]
theorem qgq {n:Int} (h:be n=true) (h0:128≤n) (h1:n<2048):dH n=[192+n / 64,128+n % 64]:=by
 simp [dH,h,h1,show ¬n<128 by omega]
theorem qgw {n:Int} (h:be n=true) (h0:2048≤n) (h1:n<65536):dH n=[224+n / 4096,128+n / 64 % 64,128+n % 64]:=by
 simp [dH,h,h1,show ¬n<128 by omega,show ¬n<2048 by omega]
theorem qgy {n:Int} (h:be n=true) (h0:65536≤n):dH n=[240+n / 262144,128+n / 4096 % 64,128+n / 64 % 64,128+n % 64]:=by
 simp [dH,h,show ¬n<128 by omega,show ¬n<2048 by omega,show ¬n<65536 by omega]
theorem qk4 (n:Int):(dH n).length≤4:=by
 unfold dH;split
 ·simp
 ·split
  ·simp
  ·split
   ·simp
   ·split <;> simp
theorem qeB (n:Int):(enc n).length≤4:=by simpa [enc] using qk4 n
theorem qsj {n:Int} (h:be n=false):enc n=[]:=by simp [enc,qqf h]
theorem qa4 (p:Int):(enc p).length=(dH p).length:=by simp [enc]
theorem db (p:Int) (r:List UInt8) (k:Nat) (x:Int) (h:(dH p)[k]? = some x):byt (enc p++r) k=x:=by
 have hk:k<(dH p).length:=by
  rcases Nat.lt_or_ge k (dH p).length with h1 | h1
  ·exact h1
  ·rw [List.getElem?_eq_none h1] at h;cases h
 have hx:=qgb p x (List.mem_of_getElem? h);have:(enc p++r)[k]? = some (UInt8.ofNat x.toNat):=by
  rw [List.getElem?_append_left (by rw [qa4];exact hk),enc,List.getElem?_map,h];rfl
 unfold byt;rw [List.getD_eq_getElem?_getD,this];simp;omega
theorem qgk (l:List UInt8) (b:Int) (n:Nat) (m:Int) (p:Int) (hl:n≤l.length) (hc:di l (n-1)=true) (ha:cF b l (n-1)=p) (h1:m≤p) (h2:be p=true):dE l b n m=(p,(n:Int)):=by
 unfold dE;rw [if_neg (by omega),if_neg (by rw [hc];decide),ha,if_neg];rintro (a | a)
 ·omega
 ·rw [h2] at a;cases a
theorem qin (p:Int) (h:be p=true) (r:List UInt8):aB (enc p++r)=(p,((enc p).length:Int)):=by
 have h0:=qa0 h;have h1:=qad h;have hl:(enc p++r).length=(enc p).length+r.length:=List.length_append;by_cases c1:p<128
 ·have e:=qbA h c1;have b0:=db p r 0 p (by rw [e];rfl);have hn:(enc p).length=1:=by rw [qa4,e];rfl
  unfold aB;rw [if_neg (by omega),b0,if_pos c1,hn];rfl
 ·by_cases c2:p<2048
  ·have e:=qgq h (by omega) c2;have b0:=db p r 0 _ (by rw [e];rfl);have b1:=db p r 1 (128+p % 64) (by rw [e];rfl);have hn:(enc p).length=2:=by rw [qa4,e];rfl
   unfold aB;rw [if_neg (by omega),b0,if_neg (by omega),if_neg (by omega),if_pos (by omega),hn];refine qgk _ _ _ _ p (by omega) ?_ ?_ (by omega) h
   ·simp [di,b1];omega
   ·simp [cF,b1];omega
  ·by_cases c3:p<65536
   ·have e:=qgw h (by omega) c3;have b0:=db p r 0 _ (by rw [e];rfl);have b1:=db p r 1 (128+p / 64 % 64) (by rw [e];rfl);have b2:=db p r 2 (128+p % 64) (by rw [e];rfl);have hn:(enc p).length=3:=by rw [qa4,e];rfl
    unfold aB;rw [if_neg (by omega),b0,if_neg (by omega),if_neg (by omega),if_neg (by omega),if_pos (by omega),hn];refine qgk _ _ _ _ p (by omega) ?_ ?_ (by omega) h
    ·simp [di,b1,b2];omega
    ·simp [cF,b1,b2];omega
   ·have e:=qgy h (by omega);have b0:=db p r 0 _ (by rw [e];rfl);have b1:=db p r 1 (128+p / 4096 % 64) (by rw [e];rfl);have b2:=db p r 2 (128+p / 64 % 64) (by rw [e];rfl);have b3:=db p r 3 (128+p % 64) (by rw [e];rfl);have hn:(enc p).length=4:=by rw [qa4,e];rfl
    unfold aB;rw [if_neg (by omega),b0,if_neg (by omega),if_neg (by omega),if_neg (by omega),if_neg (by omega),if_pos (by omega),hn];refine qgk _ _ _ _ p (by omega) ?_ ?_ (by omega) h
    ·simp [di,b1,b2,b3];omega
    ·simp [cF,b1,b2,b3];omega
theorem qnf (l:List UInt8) (h:2≤l.length):∃ b c r,l=b::c::r:=by
 cases l with
 | nil=>simp at h
 | cons b l=>
  cases l with
  | nil=>simp at h
  | cons c r=>exact ⟨b,c,r,rfl⟩
theorem qps (l:List UInt8) (h:3≤l.length):∃ b c d r,l=b::c::d::r:=by
 obtain ⟨b,c,r,rfl⟩:=qnf l (by omega);cases r with
 | nil=>simp at h
 | cons d r=>exact ⟨b,c,d,r,rfl⟩
theorem qbx (x:Int) (a:UInt8) (h:x=(a.toNat:Int)):UInt8.ofNat x.toNat=a:=by subst h;simp
theorem qbJ (l:List UInt8) (b:Int) (n:Nat) (m:Int):dE l b n m=(0,0)∨(n≤l.length∧di l (n-1)=true∧m≤cF b l (n-1)∧be (cF b l (n-1))=true∧dE l b n m=(cF b l (n-1),(n:Int))):=by
 unfold dE;split
 ·exact .inl rfl
 ·split
  ·exact .inl rfl
  ·split
   ·exact .inl rfl
   ·rename_i a b c
    refine .inr ⟨by omega,by simpa using b,?_,?_,rfl⟩
    ·omega
    ·cases hq:be (cF _ l (n-1)) with
     | true=>rfl
     | false=>exact absurd (Or.inr hq) c
def qsE (l:List UInt8) (o:Int×Int):Prop:=o=(0,0)∨(be o.1=true∧o.2=((enc o.1).length:Int)∧enc o.1++l.drop (enc o.1).length=l)
theorem ef (l:List UInt8):qsE l (aB l):=by
 cases l with
 | nil=>exact .inl rfl
 | cons a l=>
  have hb0:byt (a::l) 0=(a.toNat:Int):=rfl;have ha:=a.toNat_lt;by_cases c1:a.toNat<128
  ·have e:aB (a::l)=((a.toNat:Int),1):=by unfold aB;rw [if_neg (by simp),hb0,if_pos (by omega)]
   have hp:be (a.toNat:Int)=true:=by simp [be];omega
   have en:enc (a.toNat:Int)=[a]:=by rw [enc,qbA hp (by omega)];simp
   exact .inr (by rw [e];simp [hp,en])
  ·by_cases c2:a.toNat<192
   ·exact .inl (by unfold aB;rw [if_neg (by simp),hb0,if_neg (by omega),if_pos (by omega)])
   ·by_cases c3:a.toNat<224
    ·have e:aB (a::l)=dE (a::l) ((a.toNat:Int) % 32) 2 128:=by unfold aB;rw [if_neg (by simp),hb0,if_neg (by omega),if_neg (by omega),if_pos (by omega)]
     rw [e];rcases qbJ (a::l) ((a.toNat:Int) % 32) 2 128 with h | ⟨h1,h2,h3,h4,h5⟩
     ·exact .inl h
     ·rw [h5];cases l with
      | nil=>simp at h1
      | cons b l=>
       have hb1:byt (a::b::l) 1=(b.toNat:Int):=rfl;have hb:=b.toNat_lt;simp only [di,cF,hb1,Nat.add_one_sub_one,Bool.true_and,decide_eq_true_eq] at h2 h3 h4 ⊢;have en:enc ((a.toNat:Int) % 32*64+(b.toNat:Int) % 64)=[a,b]:=by
        rw [enc,qgq h4 (by omega) (by omega)];simp only [List.map_cons,List.map_nil];rw [qbx _ a (by omega),qbx _ b (by omega)]
       exact .inr (by simp [h4,en])
    ·by_cases c4:a.toNat<240
     ·have e:aB (a::l)=dE (a::l) ((a.toNat:Int) % 16) 3 2048:=by unfold aB;rw [if_neg (by simp),hb0,if_neg (by omega),if_neg (by omega),if_neg (by omega),if_pos (by omega)]
      rw [e];rcases qbJ (a::l) ((a.toNat:Int) % 16) 3 2048 with h | ⟨h1,h2,h3,h4,h5⟩
      ·exact .inl h
      ·rw [h5];obtain ⟨b,c,l,rfl⟩:=qnf l (by simp at h1;omega)
       ·skip
        have hb1:byt (a::b::c::l) 1=(b.toNat:Int):=rfl;have hb2:byt (a::b::c::l) 2=(c.toNat:Int):=rfl;have hb:=b.toNat_lt;have hc:=c.toNat_lt;simp only [di,cF,hb1,hb2,Nat.reduceAdd,Nat.add_one_sub_one,Bool.true_and,Bool.and_eq_true,decide_eq_true_eq] at h2 h3 h4 ⊢;have en:enc (((a.toNat:Int) % 16*64+(b.toNat:Int) % 64)*64+(c.toNat:Int) % 64)=[a,b,c]:=by
         rw [enc,qgw h4 (by omega) (by omega)];simp only [List.map_cons,List.map_nil];rw [qbx _ a (by omega),qbx _ b (by omega),qbx _ c (by omega)]
        exact .inr (by simp [h4,en])
     ·by_cases c5:a.toNat<248
      ·have e:aB (a::l)=dE (a::l) ((a.toNat:Int) % 8) 4 65536:=by unfold aB;rw [if_neg (by simp),hb0,if_neg (by omega),if_neg (by omega),if_neg (by omega),if_neg (by omega),if_pos (by omega)]
       rw [e];rcases qbJ (a::l) ((a.toNat:Int) % 8) 4 65536 with h | ⟨h1,h2,h3,h4,h5⟩
       ·exact .inl h
       ·rw [h5];obtain ⟨b,c,d,l,rfl⟩:=qps l (by simp at h1;omega)
        ·skip
         have hb1:byt (a::b::c::d::l) 1=(b.toNat:Int):=rfl;have hb2:byt (a::b::c::d::l) 2=(c.toNat:Int):=rfl;have hb3:byt (a::b::c::d::l) 3=(d.toNat:Int):=rfl;have hb:=b.toNat_lt;have hc:=c.toNat_lt;have hd:=d.toNat_lt;simp only [di,cF,hb1,hb2,hb3,Nat.reduceAdd,Nat.add_one_sub_one,Bool.true_and,Bool.and_eq_true,decide_eq_true_eq] at h2 h3 h4 ⊢;have h6:=qad h4;have en:enc ((((a.toNat:Int) % 8*64+(b.toNat:Int) % 64)*64+(c.toNat:Int) % 64)*64+(d.toNat:Int) % 64)=[a,b,c,d]:=by
          rw [enc,qgy h4 (by omega)];simp only [List.map_cons,List.map_nil];rw [qbx _ a (by omega),qbx _ b (by omega),qbx _ c (by omega),qbx _ d (by omega)]
         exact .inr (by simp [h4,en])
      ·exact .inl (by unfold aB;rw [if_neg (by simp),hb0,if_neg (by omega),if_neg (by omega),if_neg (by omega),if_neg (by omega),if_neg (by omega)])
theorem qaR (l:List UInt8):(aB l=(0,0))∨(be (aB l).1=true∧1≤(aB l).2∧(aB l).2≤4∧(aB l).2≤l.length):=by
 rcases ef l with h | ⟨h1,h2,h3⟩
 ·exact .inl h
 ·refine .inr ⟨h1,?_,?_,?_⟩
  ·rcases Nat.eq_zero_or_pos (enc (aB l).1).length with h0 | h0
   ·have:=List.eq_nil_of_length_eq_zero h0;rw [enc,List.map_eq_nil_iff] at this;unfold dH at this;rw [h1,if_neg (by decide)] at this;split at this
    ·cases this
    ·split at this
     ·cases this
     ·split at this <;> cases this
   ·omega
  ·have:=qeB (aB l).1;omega
  ·have:=congrArg List.length h3;simp at this;omega
theorem qq1 {l:List UInt8} (h:(aB l).2≠0):be (aB l).1=true:=by
 rcases qaR l with h1 | h1
 ·rw [h1] at h;simp at h
 ·exact h1.1
def qeV:Nat→List UInt8→List Int×Nat
 | 0,_=>([],0)
 | f+1,l=>if (aB l).2=0 then ([],0) else ((aB l).1::(qeV f (l.drop (aB l).2.toNat)).1,(aB l).2.toNat+(qeV f (l.drop (aB l).2.toNat)).2)
def dx (l:List UInt8):List Int×Nat:=qeV l.length l
theorem qcu (f:Nat):qeV f []=([],0):=by cases f <;> rfl
theorem qlI:∀ (f g:Nat) (l:List UInt8),l.length≤f→l.length≤g→qeV f l=qeV g l:=by
 intro f;induction f with
 | zero=>
  intro g l h _;rw [List.eq_nil_of_length_eq_zero (show l.length=0 by omega),qcu,qcu]
 | succ f ih=>
  intro g l hf hg;cases g with
  | zero=>rw [List.eq_nil_of_length_eq_zero (show l.length=0 by omega),qcu,qcu]
  | succ g=>
   rcases qaR l with h1 | ⟨_,h1,_,h2⟩
   ·simp [qeV,h1]
   ·simp only [qeV];rw [ih g (l.drop (aB l).2.toNat) (by simp;omega) (by simp;omega)]
theorem qfK {l:List UInt8} (h:(aB l).2=0):dx l=([],0):=by
 unfold dx;cases l with
 | nil=>rfl
 | cons a l=>simp [qeV,h]
theorem qgz {l:List UInt8} (h:(aB l).2≠0):dx l=((aB l).1::(dx (l.drop (aB l).2.toNat)).1,(aB l).2.toNat+(dx (l.drop (aB l).2.toNat)).2):=by
 rcases qaR l with h1 | ⟨_,h1,_,h2⟩
 ·rw [h1] at h;simp at h
 ·obtain ⟨k,hk⟩:∃ k,l.length=k+1:=⟨l.length-1,by omega⟩
  unfold dx;rw [hk,qeV,if_neg h,qlI k _ _ (by simp;omega) (Nat.le_refl _)]
def cQ (l:List Int):List UInt8:=(l.map enc).flatten
theorem qcz (p:Int) (l:List Int):cQ (p::l)=enc p++cQ l:=by simp [cQ]
theorem eC (a b:List Int):cQ (a++b)=cQ a++cQ b:=by simp [cQ]
theorem qqq {p:Int} (h:be p=true):1≤(enc p).length:=by
 have:=qaR (enc p++[]);rw [qin p h []] at this;rcases this with h1 | h1
 ·have:=congrArg Prod.snd h1;have h2:=congrArg Prod.fst h1;simp at this h2;subst h2;have:enc 0=[]:=this;exact absurd this (by decide)
 ·have:=h1.2.1;simp at this;omega
theorem qgF {P:List UInt8→Prop} (h:∀ l,(∀ k,1≤k→k≤l.length→P (l.drop k))→P l):∀ l,P l:=by
 have:∀ n,∀ l:List UInt8,l.length≤n→P l:=by
  intro n;induction n with
  | zero=>intro l hl;exact h l fun k h1 h2=>by omega
  | succ n ih=>intro l hl;exact h l fun k h1 h2=>ih _ (by simp;omega)
 exact fun l=>this _ l (Nat.le_refl _)
theorem qkz (l:List UInt8):(dx l).2≤l.length:=by
 induction l using qgF with
 | h l ih=>
  by_cases h:(aB l).2=0
  ·rw [qfK h];simp
  ·rcases qaR l with h1 | ⟨_,h1,_,h2⟩
   ·rw [h1] at h;simp at h
   ·have:=ih (aB l).2.toNat (by omega) (by omega);rw [qgz h];simp at this ⊢;omega
theorem qln (ps:List Int) (h:∀ p∈ps,be p=true) (r:List UInt8):dx (cQ ps++r)=(ps++(dx r).1,(cQ ps).length+(dx r).2):=by
 induction ps with
 | nil=>simp [cQ]
 | cons p ps ih=>
  have hp:=h p (by simp);have h1:=qin p hp (cQ ps++r);have h2:=qqq hp;have h3:=ih fun q hq=>h q (by simp [hq]);rw [qcz,List.append_assoc];have hn:(aB (enc p++(cQ ps++r))).2≠0:=by rw [h1];simp;intro h0;rw [h0] at h2;simp at h2
  rw [qgz hn,h1];simp [h3];omega
end Utf
namespace Sm
open Go.RowKit Utf Nu Wo
def qqx (x:Pr):Prop:=
 (12≤x.fm∧x.fm≤15∧ae x.ar≠[]∧x.ar≠[]∧x.df=[])∨
 (x.fm=11∧x.ar≠[]∧x.df=[])∨(x.fm=11∧x.ar≠[]∧x.df≠[]∧inS x.ar x.df=true)∨
 (x.fm=17∧x.ar≠[]∧x.df=[])∨
 (¬(11≤x.fm∧x.fm≤15)∧x.fm≠17∧x.ar=[]∧x.df=[])∨
 (x.fm=3∧x.ar=[]∧x.df=[102,97,108,115,101])
instance (x:Pr):Decidable (qqx x):=by unfold qqx;infer_instance
def qqF (L:List Pr) (i:Nat):Bool:=
 decide (i=0∨Op.bytesLess (L.getD (i-1) Pr.zero).nm (L.getD i Pr.zero).nm=true)&&decide (1≤(L.getD i Pr.zero).fm∧(L.getD i Pr.zero).fm≤18)&&(!(L.getD i Pr.zero).mu || decide ((L.getD i Pr.zero).df=[]))&&decide (qqx (L.getD i Pr.zero))
theorem qo8:(qcU.all fun t=>decide (ae t≠[])&&(List.range (ae t).length).all fun i=>qqF (ae t) i)=true:=by decide +kernel
theorem qgA {L:List Pr} {i:Nat} (hi:i<L.length) (h2:qqF L i=true) :
  (∀ h:0<i,Op.bytesLess (L[i-1]'(by omega)).nm L[i].nm=true)∧1≤L[i].fm∧L[i].fm≤18∧(L[i].mu=true→L[i].df=[])∧qqx L[i]:=by
 unfold qqF at h2;have e1:L.getD i Pr.zero=L[i]:=by rw [List.getD_eq_getElem?_getD,List.getElem?_eq_getElem hi];rfl
 have e2:L.getD (i-1) Pr.zero=L[i-1]'(by omega):=by rw [List.getD_eq_getElem?_getD,List.getElem?_eq_getElem (by omega)];rfl
 rw [e1,e2] at h2;simp only [Bool.and_eq_true,decide_eq_true_eq,Bool.or_eq_true,Bool.not_eq_true'] at h2;obtain ⟨⟨⟨h3,h4⟩,h5⟩,h6⟩:=h2;refine ⟨fun h0=>?_,h4.1,h4.2,fun hm=>?_,h6⟩
 ·rcases h3 with h3 | h3
  ·omega
  ·exact h3
 ·rcases h5 with h5 | h5
  ·rw [h5] at hm;cases hm
  ·exact h5
theorem qpM {q:Nat} (hq:q<qcU.length) (i:Nat) (hi:i<(ae qcU[q]).length):qqF (ae qcU[q]) i=true:=by
 have h:=List.all_eq_true.1 qo8 _ (List.getElem_mem hq);rw [Bool.and_eq_true] at h;exact List.all_eq_true.1 h.2 i (List.mem_range.2 hi)
theorem qoR:(qcU.all fun t=>(ae t).all fun x=>decide (x.ar.length≤700))=true:=by decide +kernel
theorem qrj {q:Nat} (hq:q<qcU.length) (i:Nat) (hi:i<(ae qcU[q]).length):(ae qcU[q])[i].ar.length≤700:=
 of_decide_eq_true (List.all_eq_true.1 (List.all_eq_true.1 qoR _ (List.getElem_mem hq)) _ (List.getElem_mem hi))
