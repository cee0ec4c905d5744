/- Merged: UtfPl. -/
import Derived.Test.YtofelafamfckiaaGreatDoorTt0
import Derived.Laws.BitsLemmas
import Derived.Laws.BitsAllLaws
namespace Go.Proofs.YtofelafamfckiaaGreatDoor
namespace Utf
open Go.RowKit
def aF (n:Int):Bool:=decide (0≤n∧n≤1114111∧(n<55296∨57343<n))
def bl (bits:Int) (l:List UInt8):Nat→Int
 | 0=>bits
 | k+1=>bl bits l k*64+byt l (k+1) % 64
def bL (l:List UInt8):Nat→Bool
 | 0=>true
 | k+1=>bL l k&&decide (byt l (k+1) / 64=2)
theorem qj5 (bits:Int) (l:List UInt8) (h0:0≤bits) (k:Nat):0≤bl bits l k:=by
 induction k with
 | zero=>exact h0
 | succ k ih=>have:=qac l (k+1);simp only [bl];omega
theorem qjD (bits:Int) (l:List UInt8) (h1:bits≤31):bl bits l 0≤31∧bl bits l 1≤2047∧bl bits l 2≤131071∧bl bits l 3≤8388607:=by
 have a1:=qac l 1;have a2:=qac l 2;have a3:=qac l 3;simp only [bl];omega
theorem qkS (bits:Int) (l:List UInt8) (h1:bits≤31) (k:Nat) (hk:k≤3):bl bits l k≤8388607:=by
 obtain ⟨a,b,c,d⟩:=qjD bits l h1;obtain rfl | rfl | rfl | rfl:k=0∨k=1∨k=2∨k=3:=by omega
 all_goals omega
def bT (l:List UInt8) (bits:Int) (n:Nat) (least:Int):Int×Int:=
 if l.length<n then (0,0) else if bL l (n-1)=false then (0,0)
 else if bl bits l (n-1)<least∨aF (bl bits l (n-1))=false then (0,0) else (bl bits l (n-1),n)
def am (l:List UInt8):Int×Int:=
 if l.length=0 then (0,0)
 else if byt l 0<128 then (byt l 0,1)
 else if byt l 0<192 then (0,0)
 else if byt l 0<224 then bT l (byt l 0 % 32) 2 128
 else if byt l 0<240 then bT l (byt l 0 % 16) 3 2048
 else if byt l 0<248 then bT l (byt l 0 % 8) 4 65536
 else (0,0)
def qhj (l:List UInt8) (at_:Int):Int×Int:=if at_<0∨(l.length:Int)≤at_ then (0,0) else am (l.drop at_.toNat)
theorem qfC (l:List UInt8) (b:Int) (n:Nat) (m:Int) (h:l.length<n):bT l b n m=(0,0):=by rw [bT,if_pos h]
theorem qfP (l:List UInt8) (k:Nat) (h:bL l k=false):∀ n,k≤n→bL l n=false:=by
 intro n hn;induction n with
 | zero=>
  obtain rfl:k=0:=by omega
  exact h
 | succ n ih=>
  by_cases e:k=n+1
  ·subst e;exact h
  ·simp [bL,ih (by omega)]
theorem qhF (l:List UInt8) (b:Int) (n:Nat) (m:Int) (h:¬l.length<n) (k:Nat) (hk:k≤n-1) (h2:bL l k=false):bT l b n m=(0,0):=by
 rw [bT,if_neg h,if_pos (qfP l k h2 _ hk)]
theorem qeR (l:List UInt8) (b:Int) (k:Nat) (m:Int) (h:bl b l k<m∨aF (bl b l k)=false):bT l b (k+1) m=(0,0):=by
 unfold bT;split
 ·rfl
 ·split
  ·rfl
  ·rw [Nat.add_sub_cancel,if_pos h]
theorem qj1 (l:List UInt8) (b:Int) (k:Nat) (m:Int) (h:¬l.length<k+1) (hc:bL l k=true) (h1:¬bl b l k<m) (h2:aF (bl b l k)=true) :
  bT l b (k+1) m=(bl b l k,((k+1:Nat):Int)):=by
 unfold bT;rw [Nat.add_sub_cancel,if_neg h,if_neg (by rw [hc];decide),if_neg];rintro (a | a)
 ·exact h1 a
 ·rw [h2] at a;cases a
theorem qfd (l:List UInt8) (p:Int) (h:p<0∨(l.length:Int)≤p):qhj l p=(0,0):=by rw [qhj,if_pos h]
theorem bj (l:List UInt8) (q k:Nat):byt (l.drop q) k=byt l (q+k):=by unfold byt;simp [List.getD_eq_getElem?_getD]
theorem qd9 (s:ByteArray) (q:Nat) (h:q<s.size):qhj s.data.toList q=am (s.data.toList.drop q):=by
 have:=ag s;rw [qhj,if_neg (by omega)];simp
theorem cn (l:List UInt8) (q:Nat) (h:q<l.length):¬(l.drop q).length=0:=by simp;omega
theorem qlG (l:List UInt8) (q:Nat) (c:Int) (h:q<l.length) (g:byt l q=c) (h1:c<128):am (l.drop q)=(c,1):=by
 unfold am;rw [if_neg (cn l q h),bj,Nat.add_zero,g,if_pos h1]
theorem qlD (l:List UInt8) (q:Nat) (c:Int) (h:q<l.length) (g:byt l q=c) (h0:128≤c) (h1:c<192):am (l.drop q)=(0,0):=by
 unfold am;rw [if_neg (cn l q h),bj,Nat.add_zero,g,if_neg (by omega),if_pos h1]
theorem qlL (l:List UInt8) (q:Nat) (c:Int) (h:q<l.length) (g:byt l q=c) (h0:192≤c) (h1:c<224):am (l.drop q)=bT (l.drop q) (c % 32) 2 128:=by
 unfold am;rw [if_neg (cn l q h),bj,Nat.add_zero,g,if_neg (by omega),if_neg (by omega),if_pos h1]
theorem ql0 (l:List UInt8) (q:Nat) (c:Int) (h:q<l.length) (g:byt l q=c) (h0:224≤c) (h1:c<240):am (l.drop q)=bT (l.drop q) (c % 16) 3 2048:=by
 unfold am;rw [if_neg (cn l q h),bj,Nat.add_zero,g,if_neg (by omega),if_neg (by omega),if_neg (by omega),if_pos h1]
theorem qld (l:List UInt8) (q:Nat) (c:Int) (h:q<l.length) (g:byt l q=c) (h0:240≤c) (h1:c<248):am (l.drop q)=bT (l.drop q) (c % 8) 4 65536:=by
 unfold am;rw [if_neg (cn l q h),bj,Nat.add_zero,g,if_neg (by omega),if_neg (by omega),if_neg (by omega),if_neg (by omega),if_pos h1]
theorem qly (l:List UInt8) (q:Nat) (c:Int) (h:q<l.length) (g:byt l q=c) (h0:248≤c):am (l.drop q)=(0,0):=by
 unfold am;rw [if_neg (cn l q h),bj,Nat.add_zero,g,if_neg (by omega),if_neg (by omega),if_neg (by omega),if_neg (by omega),if_neg (by omega)]
theorem qlf (x:Int) (h0:0≤x) (h1:x≤255):bits .and .u8 x 192=x / 64*64:=by
 have h:∀ n:Fin 256,bits .and .u8 (n.val:Int) 192=(n.val:Int) / 64*64:=by decide +kernel
 have:=h ⟨x.toNat,by omega⟩
 simpa [Int.toNat_of_nonneg h0] using this
theorem qgR (x:Int) (h0:0≤x) (h1:x≤255):(bits .and .u8 x 192 != 128) = !(decide (x / 64=2)):=by
 rw [qlf x h0 h1,Bool.eq_iff_iff];simp;omega
theorem qlC (n:Int) (h0:0≤n) (h1:n≤2147483647):bits .and .i32 n 63=n % 64:=
 bits_mask .i32 31 (by decide) wraps_i32 6 (by decide) n h0 (by omega)
def cd (n:Int):List Int:=
 if aF n=false then []
 else if n<128 then [n]
 else if n<2048 then [192+n / 64,128+n % 64]
 else if n<65536 then [224+n / 4096,128+n / 64 % 64,128+n % 64]
 else [240+n / 262144,128+n / 4096 % 64,128+n / 64 % 64,128+n % 64]
def enc (n:Int):List UInt8:=(cd n).map fun x=>UInt8.ofNat x.toNat
theorem qaV {n:Int} (h:aF n=true):0≤n:=by simp [aF] at h;omega
theorem qah {n:Int} (h:aF n=true):n≤1114111:=by simp [aF] at h;omega
theorem qdJ (n:Int):∀ x∈cd n,0≤x∧x<256:=by
 intro x hx;unfold cd at hx;split at hx
 ·simp at hx
 ·have h1:=qaV (n:=n) (by simpa using ‹¬aF n=false›);have h2:=qah (n:=n) (by simpa using ‹¬aF n=false›);split at hx
  ·simp at hx;omega
  ·split at hx
   ·simp at hx;omega
   ·split at hx <;> (simp at hx;omega)
theorem bR (n:Int):Lib.byteCells (enc n)=(cd n).map (Value.int .u8):=by
 simp only [Lib.byteCells,enc,List.map_map];apply List.map_congr_left;intro x hx;obtain ⟨h0,h1⟩:=qdJ n x hx;simp [Function.comp];omega
theorem qjW {n:Int} (h:aF n=false):cd n=[]:=by simp [cd,h]
theorem qbk {n:Int} (h:aF n=true) (h1:n<128):cd n=[n]:=by simp [cd,h,h1]
theorem qen {n:Int} (h:aF n=true) (h0:128≤n) (h1:n<2048):cd n=[192+n / 64,128+n % 64]:=by
 simp [cd,h,h1,show ¬n<128 by omega]
theorem qes {n:Int} (h:aF n=true) (h0:2048≤n) (h1:n<65536):cd n=[224+n / 4096,128+n / 64 % 64,128+n % 64]:=by
 simp [cd,h,h1,show ¬n<128 by omega,show ¬n<2048 by omega]
theorem qei {n:Int} (h:aF n=true) (h0:65536≤n):cd n=[240+n / 262144,128+n / 4096 % 64,128+n / 64 % 64,128+n % 64]:=by
 simp [cd,h,show ¬n<128 by omega,show ¬n<2048 by omega,show ¬n<65536 by omega]
theorem qgC (n:Int):(cd n).length≤4:=by
 unfold cd;split
 ·simp
 ·split
  ·simp
  ·split
   ·simp
   ·split <;> simp
theorem qcy (n:Int):(enc n).length≤4:=by simpa [enc] using qgC n
theorem qlg {n:Int} (h:aF n=false):enc n=[]:=by simp [enc,qjW h]
theorem qaX (p:Int):(enc p).length=(cd p).length:=by simp [enc]
theorem bJ (p:Int) (r:List UInt8) (k:Nat) (x:Int) (h:(cd p)[k]? = some x):byt (enc p++r) k=x:=by
 have hk:k<(cd p).length:=by
  rcases Nat.lt_or_ge k (cd p).length with h1 | h1
  ·exact h1
  ·rw [List.getElem?_eq_none h1] at h;cases h
 have hx:=qdJ p x (List.mem_of_getElem? h);have:(enc p++r)[k]? = some (UInt8.ofNat x.toNat):=by
  rw [List.getElem?_append_left (by rw [qaX];exact hk),enc,List.getElem?_map,h];rfl
 unfold byt;rw [List.getD_eq_getElem?_getD,this];simp;omega
theorem qej (l:List UInt8) (b:Int) (n:Nat) (m:Int) (p:Int) (hl:n≤l.length) (hc:bL l (n-1)=true) (ha:bl b l (n-1)=p) (h1:m≤p) (h2:aF p=true):bT l b n m=(p,(n:Int)):=by
 unfold bT;rw [if_neg (by omega),if_neg (by rw [hc];decide),ha,if_neg];rintro (a | a)
 ·omega
 ·rw [h2] at a;cases a
theorem qff (p:Int) (h:aF p=true) (r:List UInt8):am (enc p++r)=(p,((enc p).length:Int)):=by
 have h0:=qaV h;have h1:=qah h;have hl:(enc p++r).length=(enc p).length+r.length:=List.length_append;by_cases c1:p<128
 ·have e:=qbk h c1;have b0:=bJ p r 0 p (by rw [e];rfl);have hn:(enc p).length=1:=by rw [qaX,e];rfl
  unfold am;rw [if_neg (by omega),b0,if_pos c1,hn];rfl
 ·by_cases c2:p<2048
  ·have e:=qen h (by omega) c2;have b0:=bJ p r 0 _ (by rw [e];rfl);have b1:=bJ p r 1 (128+p % 64) (by rw [e];rfl);have hn:(enc p).length=2:=by rw [qaX,e];rfl
   unfold am;rw [if_neg (by omega),b0,if_neg (by omega),if_neg (by omega),if_pos (by omega),hn];refine qej _ _ _ _ p (by omega) ?_ ?_ (by omega) h
   ·simp [bL,b1];omega
   ·simp [bl,b1];omega
  ·by_cases c3:p<65536
   ·have e:=qes h (by omega) c3;have b0:=bJ p r 0 _ (by rw [e];rfl);have b1:=bJ p r 1 (128+p / 64 % 64) (by rw [e];rfl);have b2:=bJ p r 2 (128+p % 64) (by rw [e];rfl);have hn:(enc p).length=3:=by rw [qaX,e];rfl
    unfold am;rw [if_neg (by omega),b0,if_neg (by omega),if_neg (by omega),if_neg (by omega),if_pos (by omega),hn];refine qej _ _ _ _ p (by omega) ?_ ?_ (by omega) h
    ·simp [bL,b1,b2];omega
    ·simp [bl,b1,b2];omega
   ·have e:=qei h (by omega);have b0:=bJ p r 0 _ (by rw [e];rfl);have b1:=bJ p r 1 (128+p / 4096 % 64) (by rw [e];rfl);have b2:=bJ p r 2 (128+p / 64 % 64) (by rw [e];rfl);have b3:=bJ p r 3 (128+p % 64) (by rw [e];rfl);have hn:(enc p).length=4:=by rw [qaX,e];rfl
    unfold am;rw [if_neg (by omega),b0,if_neg (by omega),if_neg (by omega),if_neg (by omega),if_neg (by omega),if_pos (by omega),hn];refine qej _ _ _ _ p (by omega) ?_ ?_ (by omega) h
    ·simp [bL,b1,b2,b3];omega
    ·simp [bl,b1,b2,b3];omega
theorem qhY (l:List UInt8) (h:2≤l.length):∃ b c r,l=b::c::r:=by
 cases l with
 | nil=>simp at h
 | cons b l=>
  cases l with
  | nil=>simp at h
  | cons c r=>exact ⟨b,c,r,rfl⟩
theorem qhS (l:List UInt8) (h:3≤l.length):∃ b c d r,l=b::c::d::r:=by
 obtain ⟨b,c,r,rfl⟩:=qhY l (by omega);cases r with
 | nil=>simp at h
 | cons d r=>exact ⟨b,c,d,r,rfl⟩
theorem qbe (x:Int) (a:UInt8) (h:x=(a.toNat:Int)):UInt8.ofNat x.toNat=a:=by subst h;simp
theorem qbh (l:List UInt8) (b:Int) (n:Nat) (m:Int):bT l b n m=(0,0)∨(n≤l.length∧bL l (n-1)=true∧m≤bl b l (n-1)∧aF (bl b l (n-1))=true∧bT l b n m=(bl b l (n-1),(n:Int))):=by
 unfold bT;split
 ·exact .inl rfl
 ·split
  ·exact .inl rfl
  ·split
   ·exact .inl rfl
   ·rename_i a b c
    refine .inr ⟨by omega,by simpa using b,?_,?_,rfl⟩
    ·omega
    ·cases hq:aF (bl _ l (n-1)) with
     | true=>rfl
     | false=>exact absurd (Or.inr hq) c
def qlN (l:List UInt8) (o:Int×Int):Prop:=o=(0,0)∨(aF o.1=true∧o.2=((enc o.1).length:Int)∧enc o.1++l.drop (enc o.1).length=l)
theorem cu (l:List UInt8):qlN l (am l):=by
 cases l with
 | nil=>exact .inl rfl
 | cons a l=>
  have hb0:byt (a::l) 0=(a.toNat:Int):=rfl;have ha:=a.toNat_lt;by_cases c1:a.toNat<128
  ·have e:am (a::l)=((a.toNat:Int),1):=by unfold am;rw [if_neg (by simp),hb0,if_pos (by omega)]
   have hp:aF (a.toNat:Int)=true:=by simp [aF];omega
   have en:enc (a.toNat:Int)=[a]:=by rw [enc,qbk hp (by omega)];simp
   exact .inr (by rw [e];simp [hp,en])
  ·by_cases c2:a.toNat<192
   ·exact .inl (by unfold am;rw [if_neg (by simp),hb0,if_neg (by omega),if_pos (by omega)])
   ·by_cases c3:a.toNat<224
    ·have e:am (a::l)=bT (a::l) ((a.toNat:Int) % 32) 2 128:=by unfold am;rw [if_neg (by simp),hb0,if_neg (by omega),if_neg (by omega),if_pos (by omega)]
     rw [e];rcases qbh (a::l) ((a.toNat:Int) % 32) 2 128 with h | ⟨h1,h2,h3,h4,h5⟩
     ·exact .inl h
     ·rw [h5];cases l with
      | nil=>simp at h1
      | cons b l=>
       have hb1:byt (a::b::l) 1=(b.toNat:Int):=rfl;have hb:=b.toNat_lt;simp only [bL,bl,hb1,Nat.add_one_sub_one,Bool.true_and,decide_eq_true_eq] at h2 h3 h4 ⊢;have en:enc ((a.toNat:Int) % 32*64+(b.toNat:Int) % 64)=[a,b]:=by
        rw [enc,qen h4 (by omega) (by omega)];simp only [List.map_cons,List.map_nil];rw [qbe _ a (by omega),qbe _ b (by omega)]
       exact .inr (by simp [h4,en])
    ·by_cases c4:a.toNat<240
     ·have e:am (a::l)=bT (a::l) ((a.toNat:Int) % 16) 3 2048:=by unfold am;rw [if_neg (by simp),hb0,if_neg (by omega),if_neg (by omega),if_neg (by omega),if_pos (by omega)]
      rw [e];rcases qbh (a::l) ((a.toNat:Int) % 16) 3 2048 with h | ⟨h1,h2,h3,h4,h5⟩
      ·exact .inl h
      ·rw [h5];obtain ⟨b,c,l,rfl⟩:=qhY l (by simp at h1;omega)
       ·skip
        have hb1:byt (a::b::c::l) 1=(b.toNat:Int):=rfl;have hb2:byt (a::b::c::l) 2=(c.toNat:Int):=rfl;have hb:=b.toNat_lt;have hc:=c.toNat_lt;simp only [bL,bl,hb1,hb2,Nat.reduceAdd,Nat.add_one_sub_one,Bool.true_and,Bool.and_eq_true,decide_eq_true_eq] at h2 h3 h4 ⊢;have en:enc (((a.toNat:Int) % 16*64+(b.toNat:Int) % 64)*64+(c.toNat:Int) % 64)=[a,b,c]:=by
         rw [enc,qes h4 (by omega) (by omega)];simp only [List.map_cons,List.map_nil];rw [qbe _ a (by omega),qbe _ b (by omega),qbe _ c (by omega)]
        exact .inr (by simp [h4,en])
     ·by_cases c5:a.toNat<248
      ·have e:am (a::l)=bT (a::l) ((a.toNat:Int) % 8) 4 65536:=by unfold am;rw [if_neg (by simp),hb0,if_neg (by omega),if_neg (by omega),if_neg (by omega),if_neg (by omega),if_pos (by omega)]
       rw [e];rcases qbh (a::l) ((a.toNat:Int) % 8) 4 65536 with h | ⟨h1,h2,h3,h4,h5⟩
       ·exact .inl h
       ·rw [h5];obtain ⟨b,c,d,l,rfl⟩:=qhS l (by simp at h1;omega)
        ·skip
         have hb1:byt (a::b::c::d::l) 1=(b.toNat:Int):=rfl;have hb2:byt (a::b::c::d::l) 2=(c.toNat:Int):=rfl;have hb3:byt (a::b::c::d::l) 3=(d.toNat:Int):=rfl;have hb:=b.toNat_lt;have hc:=c.toNat_lt;have hd:=d.toNat_lt;simp only [bL,bl,hb1,hb2,hb3,Nat.reduceAdd,Nat.add_one_sub_one,Bool.true_and,Bool.and_eq_true,decide_eq_true_eq] at h2 h3 h4 ⊢;have h6:=qah h4;have en:enc ((((a.toNat:Int) % 8*64+(b.toNat:Int) % 64)*64+(c.toNat:Int) % 64)*64+(d.toNat:Int) % 64)=[a,b,c,d]:=by
          rw [enc,qei h4 (by omega)];simp only [List.map_cons,List.map_nil];rw [qbe _ a (by omega),qbe _ b (by omega),qbe _ c (by omega),qbe _ d (by omega)]
         exact .inr (by simp [h4,en])
      ·exact .inl (by unfold am;rw [if_neg (by simp),hb0,if_neg (by omega),if_neg (by omega),if_neg (by omega),if_neg (by omega),if_neg (by omega)])
theorem qay (l:List UInt8):(am l=(0,0))∨(aF (am l).1=true∧1≤(am l).2∧(am l).2≤4∧(am l).2≤l.length):=by
 rcases cu l with h | ⟨h1,h2,h3⟩
 ·exact .inl h
 ·refine .inr ⟨h1,?_,?_,?_⟩
  ·rcases Nat.eq_zero_or_pos (enc (am l).1).length with h0 | h0
   ·have:=List.eq_nil_of_length_eq_zero h0;rw [enc,List.map_eq_nil_iff] at this;unfold cd at this;rw [h1,if_neg (by decide)] at this;split at this
    ·cases this
    ·split at this
     ·cases this
     ·split at this <;> cases this
   ·omega
  ·have:=qcy (am l).1;omega
  ·have:=congrArg List.length h3;simp at this;omega
theorem qjT {l:List UInt8} (h:(am l).2≠0):aF (am l).1=true:=by
 rcases qay l with h1 | h1
 ·rw [h1] at h;simp at h
 ·exact h1.1
def qcR:Nat→List UInt8→List Int×Nat
 | 0,_=>([],0)
 | f+1,l=>if (am l).2=0 then ([],0) else ((am l).1::(qcR f (l.drop (am l).2.toNat)).1,(am l).2.toNat+(qcR f (l.drop (am l).2.toNat)).2)
def bN (l:List UInt8):List Int×Nat:=qcR l.length l
theorem qbx (f:Nat):qcR f []=([],0):=by cases f <;> rfl
theorem qhd:∀ (f g:Nat) (l:List UInt8),l.length≤f→l.length≤g→qcR f l=qcR g l:=by
 intro f;induction f with
 | zero=>
  intro g l h _;rw [List.eq_nil_of_length_eq_zero (show l.length=0 by omega),qbx,qbx]
 | succ f ih=>
  intro g l hf hg;cases g with
  | zero=>rw [List.eq_nil_of_length_eq_zero (show l.length=0 by omega),qbx,qbx]
  | succ g=>
   rcases qay l with h1 | ⟨_,h1,_,h2⟩
   ·simp [qcR,h1]
   ·simp only [qcR];rw [ih g (l.drop (am l).2.toNat) (by simp;omega) (by simp;omega)]
theorem qdP {l:List UInt8} (h:(am l).2=0):bN l=([],0):=by
 unfold bN;cases l with
 | nil=>rfl
 | cons a l=>simp [qcR,h]
theorem qev {l:List UInt8} (h:(am l).2≠0):bN l=((am l).1::(bN (l.drop (am l).2.toNat)).1,(am l).2.toNat+(bN (l.drop (am l).2.toNat)).2):=by
 rcases qay l with h1 | ⟨_,h1,_,h2⟩
 ·rw [h1] at h;simp at h
 ·obtain ⟨k,hk⟩:∃ k,l.length=k+1:=⟨l.length-1,by omega⟩
  unfold bN;rw [hk,qcR,if_neg h,qhd k _ _ (by simp;omega) (Nat.le_refl _)]
def bx (l:List Int):List UInt8:=(l.map enc).flatten
theorem qcb (p:Int) (l:List Int):bx (p::l)=enc p++bx l:=by simp [bx]
theorem cK (a b:List Int):bx (a++b)=bx a++bx b:=by simp [bx]
theorem qkJ {p:Int} (h:aF p=true):1≤(enc p).length:=by
 have:=qay (enc p++[]);rw [qff p h []] at this;rcases this with h1 | h1
 ·have:=congrArg Prod.snd h1;have h2:=congrArg Prod.fst h1;simp at this h2;subst h2;have:enc 0=[]:=this;exact absurd this (by decide)
 ·have:=h1.2.1;simp at this;omega
theorem qew {P:List UInt8→Prop} (h:∀ l,(∀ k,1≤k→k≤l.length→P (l.drop k))→P l):∀ l,P l:=by
 have:∀ n,∀ l:List UInt8,l.length≤n→P l:=by
  intro n;induction n with
  | zero=>intro l hl;exact h l fun k h1 h2=>by omega
  | succ n ih=>intro l hl;exact h l fun k h1 h2=>ih _ (by simp;omega)
 exact fun l=>this _ l (Nat.le_refl _)
theorem qgI (l:List UInt8):(bN l).2≤l.length:=by
 induction l using qew with
 | h l ih=>
  by_cases h:(am l).2=0
  ·rw [qdP h];simp
  ·rcases qay l with h1 | ⟨_,h1,_,h2⟩
   ·rw [h1] at h;simp at h
   ·have:=ih (am l).2.toNat (by omega) (by omega);rw [qev h];simp at this ⊢;omega
theorem qhO (ps:List Int) (h:∀ p∈ps,aF p=true) (r:List UInt8):bN (bx ps++r)=(ps++(bN r).1,(bx ps).length+(bN r).2):=by
 induction ps with
 | nil=>simp [bx]
 | cons p ps ih=>
  have hp:=h p (by simp);have h1:=qff p hp (bx ps++r);have h2:=qkJ hp;have h3:=ih fun q hq=>h q (by simp [hq]);rw [qcb,List.append_assoc];have hn:(am (enc p++(bx ps++r))).2≠0:=by rw [h1];simp;intro h0;rw [h0] at h2;simp at h2
  rw [qev hn,h1];simp [h3];omega
