/- Merged: UtfPl. -/
import Derived.Test.YtofelafamfckiaaGreatDoorTt0
import Derived.Laws.BitsLemmas
import Derived.Laws.BitsAllLaws
namespace Go.Proofs.YtofelafamfckiaaGreatDoor
namespace Utf
open Go.RowKit
def aL (n:Int):Bool:=decide (0≤n∧n≤1114111∧(n<55296∨57343<n))
def bA (bits:Int) (l:List UInt8):Nat→Int
 | 0=>bits
 | k+1=>bA bits l k*64+byt l (k+1) % 64
def bW (l:List UInt8):Nat→Bool
 | 0=>true
 | k+1=>bW l k&&decide (byt l (k+1) / 64=2)
theorem qkq (bits:Int) (l:List UInt8) (h0:0≤bits) (k:Nat):0≤bA bits l k:=by
 induction k with
 | zero=>exact h0
 | succ k ih=>have:=qaj l (k+1);simp only [bA];omega
theorem qi1 (bits:Int) (l:List UInt8) (h1:bits≤31):bA bits l 0≤31∧bA bits l 1≤2047∧bA bits l 2≤131071∧bA bits l 3≤8388607:=by
 have a1:=qaj l 1;have a2:=qaj l 2;have a3:=qaj l 3;simp only [bA];omega
theorem qkY (bits:Int) (l:List UInt8) (h1:bits≤31) (k:Nat) (hk:k≤3):bA bits l k≤8388607:=by
 obtain ⟨a,b,c,d⟩:=qi1 bits l h1;obtain rfl | rfl | rfl | rfl:k=0∨k=1∨k=2∨k=3:=by omega
 all_goals omega
def ce (l:List UInt8) (bits:Int) (n:Nat) (least:Int):Int×Int:=
 if l.length<n then (0,0) else if bW l (n-1)=false then (0,0)
 else if bA bits l (n-1)<least∨aL (bA bits l (n-1))=false then (0,0) else (bA bits l (n-1),n)
def au (l:List UInt8):Int×Int:=
 if l.length=0 then (0,0)
 else if byt l 0<128 then (byt l 0,1)
 else if byt l 0<192 then (0,0)
 else if byt l 0<224 then ce l (byt l 0 % 32) 2 128
 else if byt l 0<240 then ce l (byt l 0 % 16) 3 2048
 else if byt l 0<248 then ce l (byt l 0 % 8) 4 65536
 else (0,0)
def qhi (l:List UInt8) (at_:Int):Int×Int:=if at_<0∨(l.length:Int)≤at_ then (0,0) else au (l.drop at_.toNat)
theorem qf2 (l:List UInt8) (b:Int) (n:Nat) (m:Int) (h:l.length<n):ce l b n m=(0,0):=by rw [ce,if_pos h]
theorem qgs (l:List UInt8) (k:Nat) (h:bW l k=false):∀ n,k≤n→bW l n=false:=by
 intro n hn;induction n with
 | zero=>
  obtain rfl:k=0:=by omega
  exact h
 | succ n ih=>
  by_cases e:k=n+1
  ·subst e;exact h
  ·simp [bW,ih (by omega)]
theorem qhw (l:List UInt8) (b:Int) (n:Nat) (m:Int) (h:¬l.length<n) (k:Nat) (hk:k≤n-1) (h2:bW l k=false):ce l b n m=(0,0):=by
 rw [ce,if_neg h,if_pos (qgs l k h2 _ hk)]
theorem qfy (l:List UInt8) (b:Int) (k:Nat) (m:Int) (h:bA b l k<m∨aL (bA b l k)=false):ce l b (k+1) m=(0,0):=by
 unfold ce;split
 ·rfl
 ·split
  ·rfl
  ·rw [Nat.add_sub_cancel,if_pos h]
theorem qkr (l:List UInt8) (b:Int) (k:Nat) (m:Int) (h:¬l.length<k+1) (hc:bW l k=true) (h1:¬bA b l k<m) (h2:aL (bA b l k)=true) :
  ce l b (k+1) m=(bA b l k,((k+1:Nat):Int)):=by
 unfold ce;rw [Nat.add_sub_cancel,if_neg h,if_neg (by rw [hc];decide),if_neg];rintro (a | a)
 ·exact h1 a
 ·rw [h2] at a;cases a
theorem qfb (l:List UInt8) (p:Int) (h:p<0∨(l.length:Int)≤p):qhi l p=(0,0):=by rw [qhi,if_pos h]
theorem bv (l:List UInt8) (q k:Nat):byt (l.drop q) k=byt l (q+k):=by unfold byt;simp [List.getD_eq_getElem?_getD]
theorem qeA (s:ByteArray) (q:Nat) (h:q<s.size):qhi s.data.toList q=au (s.data.toList.drop q):=by
 have:=ai s;rw [qhi,if_neg (by omega)];simp
theorem cI (l:List UInt8) (q:Nat) (h:q<l.length):¬(l.drop q).length=0:=by simp;omega
theorem qmo (l:List UInt8) (q:Nat) (c:Int) (h:q<l.length) (g:byt l q=c) (h1:c<128):au (l.drop q)=(c,1):=by
 unfold au;rw [if_neg (cI l q h),bv,Nat.add_zero,g,if_pos h1]
theorem qml (l:List UInt8) (q:Nat) (c:Int) (h:q<l.length) (g:byt l q=c) (h0:128≤c) (h1:c<192):au (l.drop q)=(0,0):=by
 unfold au;rw [if_neg (cI l q h),bv,Nat.add_zero,g,if_neg (by omega),if_pos h1]
theorem qlW (l:List UInt8) (q:Nat) (c:Int) (h:q<l.length) (g:byt l q=c) (h0:192≤c) (h1:c<224):au (l.drop q)=ce (l.drop q) (c % 32) 2 128:=by
 unfold au;rw [if_neg (cI l q h),bv,Nat.add_zero,g,if_neg (by omega),if_neg (by omega),if_pos h1]
theorem qmb (l:List UInt8) (q:Nat) (c:Int) (h:q<l.length) (g:byt l q=c) (h0:224≤c) (h1:c<240):au (l.drop q)=ce (l.drop q) (c % 16) 3 2048:=by
 unfold au;rw [if_neg (cI l q h),bv,Nat.add_zero,g,if_neg (by omega),if_neg (by omega),if_neg (by omega),if_pos h1]
theorem qlX (l:List UInt8) (q:Nat) (c:Int) (h:q<l.length) (g:byt l q=c) (h0:240≤c) (h1:c<248):au (l.drop q)=ce (l.drop q) (c % 8) 4 65536:=by
 unfold au;rw [if_neg (cI l q h),bv,Nat.add_zero,g,if_neg (by omega),if_neg (by omega),if_neg (by omega),if_neg (by omega),if_pos h1]
theorem qlT (l:List UInt8) (q:Nat) (c:Int) (h:q<l.length) (g:byt l q=c) (h0:248≤c):au (l.drop q)=(0,0):=by
 unfold au;rw [if_neg (cI l q h),bv,Nat.add_zero,g,if_neg (by omega),if_neg (by omega),if_neg (by omega),if_neg (by omega),if_neg (by omega)]
theorem qlB (x:Int) (h0:0≤x) (h1:x≤255):bits .and .u8 x 192=x / 64*64:=by
 have h:∀ n:Fin 256,bits .and .u8 (n.val:Int) 192=(n.val:Int) / 64*64:=by decide +kernel
 have:=h ⟨x.toNat,by omega⟩
 simpa [Int.toNat_of_nonneg h0] using this
theorem qhm (x:Int) (h0:0≤x) (h1:x≤255):(bits .and .u8 x 192 != 128) = !(decide (x / 64=2)):=by
 rw [qlB x h0 h1,Bool.eq_iff_iff];simp;omega
theorem ql7 (n:Int) (h0:0≤n) (h1:n≤2147483647):bits .and .i32 n 63=n % 64:=
 bits_mask .i32 31 (by decide) wraps_i32 6 (by decide) n h0 (by omega)
def co (n:Int):List Int:=
 if aL n=false then []
 else if n<128 then [n]
 else if n<2048 then [192+n / 64,128+n % 64]
 else if n<65536 then [224+n / 4096,128+n / 64 % 64,128+n % 64]
 else [240+n / 262144,128+n / 4096 % 64,128+n / 64 % 64,128+n % 64]
def enc (n:Int):List UInt8:=(co n).map fun x=>UInt8.ofNat x.toNat
theorem qaV {n:Int} (h:aL n=true):0≤n:=by simp [aL] at h;omega
theorem qaf {n:Int} (h:aL n=true):n≤1114111:=by simp [aL] at h;omega
theorem qd1 (n:Int):∀ x∈co n,0≤x∧x<256:=by
 intro x hx;unfold co at hx;split at hx
 ·simp at hx
 ·have h1:=qaV (n:=n) (by simpa using ‹¬aL n=false›);have h2:=qaf (n:=n) (by simpa using ‹¬aL n=false›);split at hx
  ·simp at hx;omega
  ·split at hx
   ·simp at hx;omega
   ·split at hx <;> (simp at hx;omega)
theorem cd (n:Int):Lib.byteCells (enc n)=(co n).map (Value.int .u8):=by
 simp only [Lib.byteCells,enc,List.map_map];apply List.map_congr_left;intro x hx;obtain ⟨h0,h1⟩:=qd1 n x hx;simp [Function.comp];omega
theorem qla {n:Int} (h:aL n=false):co n=[]:=by simp [co,h]
theorem qbr {n:Int} (h:aL n=true) (h1:n<128):co n=[n]:=by simp [co,h,h1]
theorem qeq {n:Int} (h:aL n=true) (h0:128≤n) (h1:n<2048):co n=[192+n / 64,128+n % 64]:=by
 simp [co,h,h1,show ¬n<128 by omega]
theorem qeh {n:Int} (h:aL n=true) (h0:2048≤n) (h1:n<65536):co n=[224+n / 4096,128+n / 64 % 64,128+n % 64]:=by
 simp [co,h,h1,show ¬n<128 by omega,show ¬n<2048 by omega]
theorem qev {n:Int} (h:aL n=true) (h0:65536≤n):co n=[240+n / 262144,128+n / 4096 % 64,128+n / 64 % 64,128+n % 64]:=by
 simp [co,h,show ¬n<128 by omega,show ¬n<2048 by omega,show ¬n<65536 by omega]
theorem qgS (n:Int):(co n).length≤4:=by
 unfold co;split
 ·simp
 ·split
  ·simp
  ·split
   ·simp
   ·split <;> simp
theorem qdh (n:Int):(enc n).length≤4:=by simpa [enc] using qgS n
theorem qlD {n:Int} (h:aL n=false):enc n=[]:=by simp [enc,qla h]
theorem qaO (p:Int):(enc p).length=(co p).length:=by simp [enc]
theorem bT (p:Int) (r:List UInt8) (k:Nat) (x:Int) (h:(co p)[k]? = some x):byt (enc p++r) k=x:=by
 have hk:k<(co p).length:=by
  rcases Nat.lt_or_ge k (co p).length with h1 | h1
  ·exact h1
  ·rw [List.getElem?_eq_none h1] at h;cases h
 have hx:=qd1 p x (List.mem_of_getElem? h);have:(enc p++r)[k]? = some (UInt8.ofNat x.toNat):=by
  rw [List.getElem?_append_left (by rw [qaO];exact hk),enc,List.getElem?_map,h];rfl
 unfold byt;rw [List.getD_eq_getElem?_getD,this];simp;omega
theorem qeP (l:List UInt8) (b:Int) (n:Nat) (m:Int) (p:Int) (hl:n≤l.length) (hc:bW l (n-1)=true) (ha:bA b l (n-1)=p) (h1:m≤p) (h2:aL p=true):ce l b n m=(p,(n:Int)):=by
 unfold ce;rw [if_neg (by omega),if_neg (by rw [hc];decide),ha,if_neg];rintro (a | a)
 ·omega
 ·rw [h2] at a;cases a
theorem qfv (p:Int) (h:aL p=true) (r:List UInt8):au (enc p++r)=(p,((enc p).length:Int)):=by
 have h0:=qaV h;have h1:=qaf h;have hl:(enc p++r).length=(enc p).length+r.length:=List.length_append;by_cases c1:p<128
 ·have e:=qbr h c1;have b0:=bT p r 0 p (by rw [e];rfl);have hn:(enc p).length=1:=by rw [qaO,e];rfl
  unfold au;rw [if_neg (by omega),b0,if_pos c1,hn];rfl
 ·by_cases c2:p<2048
  ·have e:=qeq h (by omega) c2;have b0:=bT p r 0 _ (by rw [e];rfl);have b1:=bT p r 1 (128+p % 64) (by rw [e];rfl);have hn:(enc p).length=2:=by rw [qaO,e];rfl
   unfold au;rw [if_neg (by omega),b0,if_neg (by omega),if_neg (by omega),if_pos (by omega),hn];refine qeP _ _ _ _ p (by omega) ?_ ?_ (by omega) h
   ·simp [bW,b1];omega
   ·simp [bA,b1];omega
  ·by_cases c3:p<65536
   ·have e:=qeh h (by omega) c3;have b0:=bT p r 0 _ (by rw [e];rfl);have b1:=bT p r 1 (128+p / 64 % 64) (by rw [e];rfl);have b2:=bT p r 2 (128+p % 64) (by rw [e];rfl);have hn:(enc p).length=3:=by rw [qaO,e];rfl
    unfold au;rw [if_neg (by omega),b0,if_neg (by omega),if_neg (by omega),if_neg (by omega),if_pos (by omega),hn];refine qeP _ _ _ _ p (by omega) ?_ ?_ (by omega) h
    ·simp [bW,b1,b2];omega
    ·simp [bA,b1,b2];omega
   ·have e:=qev h (by omega);have b0:=bT p r 0 _ (by rw [e];rfl);have b1:=bT p r 1 (128+p / 4096 % 64) (by rw [e];rfl);have b2:=bT p r 2 (128+p / 64 % 64) (by rw [e];rfl);have b3:=bT p r 3 (128+p % 64) (by rw [e];rfl);have hn:(enc p).length=4:=by rw [qaO,e];rfl
    unfold au;rw [if_neg (by omega),b0,if_neg (by omega),if_neg (by omega),if_neg (by omega),if_neg (by omega),if_pos (by omega),hn];refine qeP _ _ _ _ p (by omega) ?_ ?_ (by omega) h
    ·simp [bW,b1,b2,b3];omega
    ·simp [bA,b1,b2,b3];omega
theorem qjW (l:List UInt8) (h:2≤l.length):∃ b c r,l=b::c::r:=by
 cases l with
 | nil=>simp at h
 | cons b l=>
  cases l with
  | nil=>simp at h
  | cons c r=>exact ⟨b,c,r,rfl⟩
theorem qir (l:List UInt8) (h:3≤l.length):∃ b c d r,l=b::c::d::r:=by
 obtain ⟨b,c,r,rfl⟩:=qjW l (by omega);cases r with
 | nil=>simp at h
 | cons d r=>exact ⟨b,c,d,r,rfl⟩
theorem qbd (x:Int) (a:UInt8) (h:x=(a.toNat:Int)):UInt8.ofNat x.toNat=a:=by subst h;simp
theorem qbf (l:List UInt8) (b:Int) (n:Nat) (m:Int):ce l b n m=(0,0)∨(n≤l.length∧bW l (n-1)=true∧m≤bA b l (n-1)∧aL (bA b l (n-1))=true∧ce l b n m=(bA b l (n-1),(n:Int))):=by
 unfold ce;split
 ·exact .inl rfl
 ·split
  ·exact .inl rfl
  ·split
   ·exact .inl rfl
   ·rename_i a b c
    refine .inr ⟨by omega,by simpa using b,?_,?_,rfl⟩
    ·omega
    ·cases hq:aL (bA _ l (n-1)) with
     | true=>rfl
     | false=>exact absurd (Or.inr hq) c
def qlR (l:List UInt8) (o:Int×Int):Prop:=o=(0,0)∨(aL o.1=true∧o.2=((enc o.1).length:Int)∧enc o.1++l.drop (enc o.1).length=l)
theorem cP (l:List UInt8):qlR l (au l):=by
 cases l with
 | nil=>exact .inl rfl
 | cons a l=>
  have hb0:byt (a::l) 0=(a.toNat:Int):=rfl;have ha:=a.toNat_lt;by_cases c1:a.toNat<128
  ·have e:au (a::l)=((a.toNat:Int),1):=by unfold au;rw [if_neg (by simp),hb0,if_pos (by omega)]
   have hp:aL (a.toNat:Int)=true:=by simp [aL];omega
   have en:enc (a.toNat:Int)=[a]:=by rw [enc,qbr hp (by omega)];simp
   exact .inr (by rw [e];simp [hp,en])
  ·by_cases c2:a.toNat<192
   ·exact .inl (by unfold au;rw [if_neg (by simp),hb0,if_neg (by omega),if_pos (by omega)])
   ·by_cases c3:a.toNat<224
    ·have e:au (a::l)=ce (a::l) ((a.toNat:Int) % 32) 2 128:=by unfold au;rw [if_neg (by simp),hb0,if_neg (by omega),if_neg (by omega),if_pos (by omega)]
     rw [e];rcases qbf (a::l) ((a.toNat:Int) % 32) 2 128 with h | ⟨h1,h2,h3,h4,h5⟩
     ·exact .inl h
     ·rw [h5];cases l with
      | nil=>simp at h1
      | cons b l=>
       have hb1:byt (a::b::l) 1=(b.toNat:Int):=rfl;have hb:=b.toNat_lt;simp only [bW,bA,hb1,Nat.add_one_sub_one,Bool.true_and,decide_eq_true_eq] at h2 h3 h4 ⊢;have en:enc ((a.toNat:Int) % 32*64+(b.toNat:Int) % 64)=[a,b]:=by
        rw [enc,qeq h4 (by omega) (by omega)];simp only [List.map_cons,List.map_nil];rw [qbd _ a (by omega),qbd _ b (by omega)]
       exact .inr (by simp [h4,en])
    ·by_cases c4:a.toNat<240
     ·have e:au (a::l)=ce (a::l) ((a.toNat:Int) % 16) 3 2048:=by unfold au;rw [if_neg (by simp),hb0,if_neg (by omega),if_neg (by omega),if_neg (by omega),if_pos (by omega)]
      rw [e];rcases qbf (a::l) ((a.toNat:Int) % 16) 3 2048 with h | ⟨h1,h2,h3,h4,h5⟩
      ·exact .inl h
      ·rw [h5];obtain ⟨b,c,l,rfl⟩:=qjW l (by simp at h1;omega)
       ·skip
        have hb1:byt (a::b::c::l) 1=(b.toNat:Int):=rfl;have hb2:byt (a::b::c::l) 2=(c.toNat:Int):=rfl;have hb:=b.toNat_lt;have hc:=c.toNat_lt;simp only [bW,bA,hb1,hb2,Nat.reduceAdd,Nat.add_one_sub_one,Bool.true_and,Bool.and_eq_true,decide_eq_true_eq] at h2 h3 h4 ⊢;have en:enc (((a.toNat:Int) % 16*64+(b.toNat:Int) % 64)*64+(c.toNat:Int) % 64)=[a,b,c]:=by
         rw [enc,qeh h4 (by omega) (by omega)];simp only [List.map_cons,List.map_nil];rw [qbd _ a (by omega),qbd _ b (by omega),qbd _ c (by omega)]
        exact .inr (by simp [h4,en])
     ·by_cases c5:a.toNat<248
      ·have e:au (a::l)=ce (a::l) ((a.toNat:Int) % 8) 4 65536:=by unfold au;rw [if_neg (by simp),hb0,if_neg (by omega),if_neg (by omega),if_neg (by omega),if_neg (by omega),if_pos (by omega)]
       rw [e];rcases qbf (a::l) ((a.toNat:Int) % 8) 4 65536 with h | ⟨h1,h2,h3,h4,h5⟩
       ·exact .inl h
       ·rw [h5];obtain ⟨b,c,d,l,rfl⟩:=qir l (by simp at h1;omega)
        ·skip
         have hb1:byt (a::b::c::d::l) 1=(b.toNat:Int):=rfl;have hb2:byt (a::b::c::d::l) 2=(c.toNat:Int):=rfl;have hb3:byt (a::b::c::d::l) 3=(d.toNat:Int):=rfl;have hb:=b.toNat_lt;have hc:=c.toNat_lt;have hd:=d.toNat_lt;simp only [bW,bA,hb1,hb2,hb3,Nat.reduceAdd,Nat.add_one_sub_one,Bool.true_and,Bool.and_eq_true,decide_eq_true_eq] at h2 h3 h4 ⊢;have h6:=qaf h4;have en:enc ((((a.toNat:Int) % 8*64+(b.toNat:Int) % 64)*64+(c.toNat:Int) % 64)*64+(d.toNat:Int) % 64)=[a,b,c,d]:=by
          rw [enc,qev h4 (by omega)];simp only [List.map_cons,List.map_nil];rw [qbd _ a (by omega),qbd _ b (by omega),qbd _ c (by omega),qbd _ d (by omega)]
         exact .inr (by simp [h4,en])
      ·exact .inl (by unfold au;rw [if_neg (by simp),hb0,if_neg (by omega),if_neg (by omega),if_neg (by omega),if_neg (by omega),if_neg (by omega)])
theorem qas (l:List UInt8):(au l=(0,0))∨(aL (au l).1=true∧1≤(au l).2∧(au l).2≤4∧(au l).2≤l.length):=by
 rcases cP l with h | ⟨h1,h2,h3⟩
 ·exact .inl h
 ·refine .inr ⟨h1,?_,?_,?_⟩
  ·rcases Nat.eq_zero_or_pos (enc (au l).1).length with h0 | h0
   ·have:=List.eq_nil_of_length_eq_zero h0;rw [enc,List.map_eq_nil_iff] at this;unfold co at this;rw [h1,if_neg (by decide)] at this;split at this
    ·cases this
    ·split at this
     ·cases this
     ·split at this <;> cases this
   ·omega
  ·have:=qdh (au l).1;omega
  ·have:=congrArg List.length h3;simp at this;omega
theorem qkA {l:List UInt8} (h:(au l).2≠0):aL (au l).1=true:=by
 rcases qas l with h1 | h1
 ·rw [h1] at h;simp at h
 ·exact h1.1
def qc9:Nat→List UInt8→List Int×Nat
 | 0,_=>([],0)
 | f+1,l=>if (au l).2=0 then ([],0) else ((au l).1::(qc9 f (l.drop (au l).2.toNat)).1,(au l).2.toNat+(qc9 f (l.drop (au l).2.toNat)).2)
def b7 (l:List UInt8):List Int×Nat:=qc9 l.length l
theorem qbA (f:Nat):qc9 f []=([],0):=by cases f <;> rfl
theorem qhA:∀ (f g:Nat) (l:List UInt8),l.length≤f→l.length≤g→qc9 f l=qc9 g l:=by
 intro f;induction f with
 | zero=>
  intro g l h _;rw [List.eq_nil_of_length_eq_zero (show l.length=0 by omega),qbA,qbA]
 | succ f ih=>
  intro g l hf hg;cases g with
  | zero=>rw [List.eq_nil_of_length_eq_zero (show l.length=0 by omega),qbA,qbA]
  | succ g=>
   rcases qas l with h1 | ⟨_,h1,_,h2⟩
   ·simp [qc9,h1]
   ·simp only [qc9];rw [ih g (l.drop (au l).2.toNat) (by simp;omega) (by simp;omega)]
theorem qdQ {l:List UInt8} (h:(au l).2=0):b7 l=([],0):=by
 unfold b7;cases l with
 | nil=>rfl
 | cons a l=>simp [qc9,h]
theorem qeo {l:List UInt8} (h:(au l).2≠0):b7 l=((au l).1::(b7 (l.drop (au l).2.toNat)).1,(au l).2.toNat+(b7 (l.drop (au l).2.toNat)).2):=by
 rcases qas l with h1 | ⟨_,h1,_,h2⟩
 ·rw [h1] at h;simp at h
 ·obtain ⟨k,hk⟩:∃ k,l.length=k+1:=⟨l.length-1,by omega⟩
  unfold b7;rw [hk,qc9,if_neg h,qhA k _ _ (by simp;omega) (Nat.le_refl _)]
def bL (l:List Int):List UInt8:=(l.map enc).flatten
theorem qb0 (p:Int) (l:List Int):bL (p::l)=enc p++bL l:=by simp [bL]
theorem cW (a b:List Int):bL (a++b)=bL a++bL b:=by simp [bL]
theorem qku {p:Int} (h:aL p=true):1≤(enc p).length:=by
 have:=qas (enc p++[]);rw [qfv p h []] at this;rcases this with h1 | h1
 ·have:=congrArg Prod.snd h1;have h2:=congrArg Prod.fst h1;simp at this h2;subst h2;have:enc 0=[]:=this;exact absurd this (by decide)
 ·have:=h1.2.1;simp at this;omega
theorem qem {P:List UInt8→Prop} (h:∀ l,(∀ k,1≤k→k≤l.length→P (l.drop k))→P l):∀ l,P l:=by
 have:∀ n,∀ l:List UInt8,l.length≤n→P l:=by
  intro n;induction n with
  | zero=>intro l hl;exact h l fun k h1 h2=>by omega
  | succ n ih=>intro l hl;exact h l fun k h1 h2=>ih _ (by simp;omega)
 exact fun l=>this _ l (Nat.le_refl _)
theorem qhe (l:List UInt8):(b7 l).2≤l.length:=by
 induction l using qem with
 | h l ih=>
  by_cases h:(au l).2=0
  ·rw [qdQ h];simp
  ·rcases qas l with h1 | ⟨_,h1,_,h2⟩
   ·rw [h1] at h;simp at h
   ·have:=ih (au l).2.toNat (by omega) (by omega);rw [qeo h];simp at this ⊢;omega
theorem qhF (ps:List Int) (h:∀ p∈ps,aL p=true) (r:List UInt8):b7 (bL ps++r)=(ps++(b7 r).1,(bL ps).length+(b7 r).2):=by
 induction ps with
 | nil=>simp [bL]
 | cons p ps ih=>
  have hp:=h p (by simp);have h1:=qfv p hp (bL ps++r);have h2:=qku hp;have h3:=ih fun q hq=>h q (by simp [hq]);rw [qb0,List.append_assoc];have hn:(au (enc p++(bL ps++r))).2≠0:=by rw [h1];simp;intro h0;rw [h0] at h2;simp at h2
  rw [qeo hn,h1];simp [h3];omega
