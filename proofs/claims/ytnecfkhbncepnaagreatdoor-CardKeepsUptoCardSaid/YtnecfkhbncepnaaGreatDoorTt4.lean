/- Merged: UtfPl SmPl2. -/
import Derived.Laws.BitsLemmas
import Derived.Laws.BitsAllLaws
import Derived.Test.YtnecfkhbncepnaaGreatDoorTt2
import GoSem.Op.String
namespace Go.Proofs.YtnecfkhbncepnaaGreatDoor
namespace Utf
open Go.RowKit
def bc (n:Int):Bool:=decide (0≤n∧n≤1114111∧(n<55296∨57343<n))
def ck (bits:Int) (l:List UInt8):Nat→Int
 | 0=>bits
 | k+1=>ck bits l k*64+byt l (k+1) % 64
def de (l:List UInt8):Nat→Bool
 | 0=>true
 | k+1=>de l k&&decide (byt l (k+1) / 64=2)
theorem qqU (bits:Int) (l:List UInt8) (h0:0≤bits) (k:Nat):0≤ck bits l k:=by
 induction k with
 | zero=>exact h0
 | succ k ih=>have:=eB l (k+1);simp only [ck];omega
theorem qoz (bits:Int) (l:List UInt8) (h1:bits≤31):ck bits l 0≤31∧ck bits l 1≤2047∧ck bits l 2≤131071∧ck bits l 3≤8388607:=by
 have a1:=eB l 1;have a2:=eB l 2;have a3:=eB l 3;simp only [ck];omega
theorem qqP (bits:Int) (l:List UInt8) (h1:bits≤31) (k:Nat) (hk:k≤3):ck bits l k≤8388607:=by
 obtain ⟨a,b,c,d⟩:=qoz bits l h1;obtain rfl | rfl | rfl | rfl:k=0∨k=1∨k=2∨k=3:=by omega
 all_goals omega
def dx (l:List UInt8) (bits:Int) (n:Nat) (least:Int):Int×Int:=
 if l.length<n then (0,0) else if de l (n-1)=false then (0,0)
 else if ck bits l (n-1)<least∨bc (ck bits l (n-1))=false then (0,0) else (ck bits l (n-1),n)
def az (l:List UInt8):Int×Int:=
 if l.length=0 then (0,0)
 else if byt l 0<128 then (byt l 0,1)
 else if byt l 0<192 then (0,0)
 else if byt l 0<224 then dx l (byt l 0 % 32) 2 128
 else if byt l 0<240 then dx l (byt l 0 % 16) 3 2048
 else if byt l 0<248 then dx l (byt l 0 % 8) 4 65536
 else (0,0)
def qk5 (l:List UInt8) (at_:Int):Int×Int:=if at_<0∨(l.length:Int)≤at_ then (0,0) else az (l.drop at_.toNat)
theorem qjO (l:List UInt8) (b:Int) (n:Nat) (m:Int) (h:l.length<n):dx l b n m=(0,0):=by rw [dx,if_pos h]
theorem qiC (l:List UInt8) (k:Nat) (h:de l k=false):∀ n,k≤n→de l n=false:=by
 intro n hn;induction n with
 | zero=>
  obtain rfl:k=0:=by omega
  exact h
 | succ n ih=>
  by_cases e:k=n+1
  ·subst e;exact h
  ·simp [de,ih (by omega)]
theorem qlF (l:List UInt8) (b:Int) (n:Nat) (m:Int) (h:¬l.length<n) (k:Nat) (hk:k≤n-1) (h2:de l k=false):dx l b n m=(0,0):=by
 rw [dx,if_neg h,if_pos (qiC l k h2 _ hk)]
theorem qhc (l:List UInt8) (b:Int) (k:Nat) (m:Int) (h:ck b l k<m∨bc (ck b l k)=false):dx l b (k+1) m=(0,0):=by
 unfold dx;split
 ·rfl
 ·split
  ·rfl
  ·rw [Nat.add_sub_cancel,if_pos h]
theorem qp3 (l:List UInt8) (b:Int) (k:Nat) (m:Int) (h:¬l.length<k+1) (hc:de l k=true) (h1:¬ck b l k<m) (h2:bc (ck b l k)=true) :
  dx l b (k+1) m=(ck b l k,((k+1:Nat):Int)):=by
 unfold dx;rw [Nat.add_sub_cancel,if_neg h,if_neg (by rw [hc];decide),if_neg];rintro (a | a)
 ·exact h1 a
 ·rw [h2] at a;cases a
theorem qhA (l:List UInt8) (p:Int) (h:p<0∨(l.length:Int)≤p):qk5 l p=(0,0):=by rw [qk5,if_pos h]
theorem ce (l:List UInt8) (q k:Nat):byt (l.drop q) k=byt l (q+k):=by unfold byt;simp [List.getD_eq_getElem?_getD]
theorem qgf (s:ByteArray) (q:Nat) (h:q<s.size):qk5 s.data.toList q=az (s.data.toList.drop q):=by
 have:=ac s;rw [qk5,if_neg (by omega)];simp
theorem dR (l:List UInt8) (q:Nat) (h:q<l.length):¬(l.drop q).length=0:=by simp;omega
theorem qsJ (l:List UInt8) (q:Nat) (c:Int) (h:q<l.length) (g:byt l q=c) (h1:c<128):az (l.drop q)=(c,1):=by
 unfold az;rw [if_neg (dR l q h),ce,Nat.add_zero,g,if_pos h1]
theorem qtl (l:List UInt8) (q:Nat) (c:Int) (h:q<l.length) (g:byt l q=c) (h0:128≤c) (h1:c<192):az (l.drop q)=(0,0):=by
 unfold az;rw [if_neg (dR l q h),ce,Nat.add_zero,g,if_neg (by omega),if_pos h1]
theorem qsv (l:List UInt8) (q:Nat) (c:Int) (h:q<l.length) (g:byt l q=c) (h0:192≤c) (h1:c<224):az (l.drop q)=dx (l.drop q) (c % 32) 2 128:=by
 unfold az;rw [if_neg (dR l q h),ce,Nat.add_zero,g,if_neg (by omega),if_neg (by omega),if_pos h1]
theorem qsj (l:List UInt8) (q:Nat) (c:Int) (h:q<l.length) (g:byt l q=c) (h0:224≤c) (h1:c<240):az (l.drop q)=dx (l.drop q) (c % 16) 3 2048:=by
 unfold az;rw [if_neg (dR l q h),ce,Nat.add_zero,g,if_neg (by omega),if_neg (by omega),if_neg (by omega),if_pos h1]
theorem qtd (l:List UInt8) (q:Nat) (c:Int) (h:q<l.length) (g:byt l q=c) (h0:240≤c) (h1:c<248):az (l.drop q)=dx (l.drop q) (c % 8) 4 65536:=by
 unfold az;rw [if_neg (dR l q h),ce,Nat.add_zero,g,if_neg (by omega),if_neg (by omega),if_neg (by omega),if_neg (by omega),if_pos h1]
theorem qrI (l:List UInt8) (q:Nat) (c:Int) (h:q<l.length) (g:byt l q=c) (h0:248≤c):az (l.drop q)=(0,0):=by
 unfold az;rw [if_neg (dR l q h),ce,Nat.add_zero,g,if_neg (by omega),if_neg (by omega),if_neg (by omega),if_neg (by omega),if_neg (by omega)]
theorem qrJ (x:Int) (h0:0≤x) (h1:x≤255):bits .and .u8 x 192=x / 64*64:=by
 have h:∀ n:Fin 256,bits .and .u8 (n.val:Int) 192=(n.val:Int) / 64*64:=by decide +kernel
 have:=h ⟨x.toNat,by omega⟩
 simpa [Int.toNat_of_nonneg h0] using this
theorem qld (x:Int) (h0:0≤x) (h1:x≤255):(bits .and .u8 x 192 != 128) = !(decide (x / 64=2)):=by
 rw [qrJ x h0 h1,Bool.eq_iff_iff];simp;omega
theorem qsK (n:Int) (h0:0≤n) (h1:n≤2147483647):bits .and .i32 n 63=n % 64:=
 bits_mask .i32 31 (by decide) wraps_i32 6 (by decide) n h0 (by omega)
def dH (n:Int):List Int:=
 if bc n=false then []
 else if n<128 then [n]
 else if n<2048 then [192+n / 64,128+n % 64]
 else if n<65536 then [224+n / 4096,128+n / 64 % 64,128+n % 64]
 else [240+n / 262144,128+n / 4096 % 64,128+n / 64 % 64,128+n % 64]
def enc (n:Int):List UInt8:=(dH n).map fun x=>UInt8.ofNat x.toNat
theorem qaW {n:Int} (h:bc n=true):0≤n:=by simp [bc] at h;omega
theorem qab {n:Int} (h:bc n=true):n≤1114111:=by simp [bc] at h;omega
theorem qfF (n:Int):∀ x∈dH n,0≤x∧x<256:=by
 intro x hx;unfold dH at hx;split at hx
 ·simp at hx
 ·have h1:=qaW (n:=n) (by simpa using ‹¬bc n=false›);have h2:=qab (n:=n) (by simpa using ‹¬bc n=false›);split at hx
  ·simp at hx;omega
  ·split at hx
   ·simp at hx;omega
   ·split at hx <;> (simp at hx;omega)
theorem dr (n:Int):Lib.byteCells (enc n)=(dH n).map (Value.int .u8):=by
 simp only [Lib.byteCells,enc,List.map_map];apply List.map_congr_left;intro x hx;obtain ⟨h0,h1⟩:=qfF n x hx;simp [Function.comp];omega
theorem qqx {n:Int} (h:bc n=false):dH n=[]:=by simp [dH,h]
theorem qbw {n:Int} (h:bc n=true) (h1:n<128):dH n=[n]:=by simp [dH,h,h1]
theorem qgl {n:Int} (h:bc n=true) (h0:128≤n) (h1:n<2048):dH n=[192+n / 64,128+n % 64]:=by
 simp [dH,h,h1,show ¬n<128 by omega]
theorem qgq {n:Int} (h:bc n=true) (h0:2048≤n) (h1:n<65536):dH n=[224+n / 4096,128+n / 64 % 64,128+n % 64]:=by
 simp [dH,h,h1,show ¬n<128 by omega,show ¬n<2048 by omega]
theorem qgI {n:Int} (h:bc n=true) (h0:65536≤n):dH n=[240+n / 262144,128+n / 4096 % 64,128+n / 64 % 64,128+n % 64]:=by
 simp [dH,h,show ¬n<128 by omega,show ¬n<2048 by omega,show ¬n<65536 by omega]
theorem qkK (n:Int):(dH n).length≤4:=by
 unfold dH;split
 ·simp
 ·split
  ·simp
  ·split
   ·simp
   ·split <;> simp
theorem qen (n:Int):(enc n).length≤4:=by simpa [enc] using qkK n
theorem qsC {n:Int} (h:bc n=false):enc n=[]:=by simp [enc,qqx h]
theorem qaX (p:Int):(enc p).length=(dH p).length:=by simp [enc]
theorem cQ (p:Int) (r:List UInt8) (k:Nat) (x:Int) (h:(dH p)[k]? = some x):byt (enc p++r) k=x:=by
 have hk:k<(dH p).length:=by
  rcases Nat.lt_or_ge k (dH p).length with h1 | h1
  ·exact h1
  ·rw [List.getElem?_eq_none h1] at h;cases h
 have hx:=qfF p x (List.mem_of_getElem? h);have:(enc p++r)[k]? = some (UInt8.ofNat x.toNat):=by
  rw [List.getElem?_append_left (by rw [qaX];exact hk),enc,List.getElem?_map,h];rfl
 unfold byt;rw [List.getD_eq_getElem?_getD,this];simp;omega
theorem qgd (l:List UInt8) (b:Int) (n:Nat) (m:Int) (p:Int) (hl:n≤l.length) (hc:de l (n-1)=true) (ha:ck b l (n-1)=p) (h1:m≤p) (h2:bc p=true):dx l b n m=(p,(n:Int)):=by
 unfold dx;rw [if_neg (by omega),if_neg (by rw [hc];decide),ha,if_neg];rintro (a | a)
 ·omega
 ·rw [h2] at a;cases a
theorem qha (p:Int) (h:bc p=true) (r:List UInt8):az (enc p++r)=(p,((enc p).length:Int)):=by
 have h0:=qaW h;have h1:=qab h;have hl:(enc p++r).length=(enc p).length+r.length:=List.length_append;by_cases c1:p<128
 ·have e:=qbw h c1;have b0:=cQ p r 0 p (by rw [e];rfl);have hn:(enc p).length=1:=by rw [qaX,e];rfl
  unfold az;rw [if_neg (by omega),b0,if_pos c1,hn];rfl
 ·by_cases c2:p<2048
  ·have e:=qgl h (by omega) c2;have b0:=cQ p r 0 _ (by rw [e];rfl);have b1:=cQ p r 1 (128+p % 64) (by rw [e];rfl);have hn:(enc p).length=2:=by rw [qaX,e];rfl
   unfold az;rw [if_neg (by omega),b0,if_neg (by omega),if_neg (by omega),if_pos (by omega),hn];refine qgd _ _ _ _ p (by omega) ?_ ?_ (by omega) h
   ·simp [de,b1];omega
   ·simp [ck,b1];omega
  ·by_cases c3:p<65536
   ·have e:=qgq h (by omega) c3;have b0:=cQ p r 0 _ (by rw [e];rfl);have b1:=cQ p r 1 (128+p / 64 % 64) (by rw [e];rfl);have b2:=cQ p r 2 (128+p % 64) (by rw [e];rfl);have hn:(enc p).length=3:=by rw [qaX,e];rfl
    unfold az;rw [if_neg (by omega),b0,if_neg (by omega),if_neg (by omega),if_neg (by omega),if_pos (by omega),hn];refine qgd _ _ _ _ p (by omega) ?_ ?_ (by omega) h
    ·simp [de,b1,b2];omega
    ·simp [ck,b1,b2];omega
   ·have e:=qgI h (by omega);have b0:=cQ p r 0 _ (by rw [e];rfl);have b1:=cQ p r 1 (128+p / 4096 % 64) (by rw [e];rfl);have b2:=cQ p r 2 (128+p / 64 % 64) (by rw [e];rfl);have b3:=cQ p r 3 (128+p % 64) (by rw [e];rfl);have hn:(enc p).length=4:=by rw [qaX,e];rfl
    unfold az;rw [if_neg (by omega),b0,if_neg (by omega),if_neg (by omega),if_neg (by omega),if_neg (by omega),if_pos (by omega),hn];refine qgd _ _ _ _ p (by omega) ?_ ?_ (by omega) h
    ·simp [de,b1,b2,b3];omega
    ·simp [ck,b1,b2,b3];omega
theorem qn2 (l:List UInt8) (h:2≤l.length):∃ b c r,l=b::c::r:=by
 cases l with
 | nil=>simp at h
 | cons b l=>
  cases l with
  | nil=>simp at h
  | cons c r=>exact ⟨b,c,r,rfl⟩
theorem qnN (l:List UInt8) (h:3≤l.length):∃ b c d r,l=b::c::d::r:=by
 obtain ⟨b,c,r,rfl⟩:=qn2 l (by omega);cases r with
 | nil=>simp at h
 | cons d r=>exact ⟨b,c,d,r,rfl⟩
theorem qbp (x:Int) (a:UInt8) (h:x=(a.toNat:Int)):UInt8.ofNat x.toNat=a:=by subst h;simp
theorem qbI (l:List UInt8) (b:Int) (n:Nat) (m:Int):dx l b n m=(0,0)∨(n≤l.length∧de l (n-1)=true∧m≤ck b l (n-1)∧bc (ck b l (n-1))=true∧dx l b n m=(ck b l (n-1),(n:Int))):=by
 unfold dx;split
 ·exact .inl rfl
 ·split
  ·exact .inl rfl
  ·split
   ·exact .inl rfl
   ·rename_i a b c
    refine .inr ⟨by omega,by simpa using b,?_,?_,rfl⟩
    ·omega
    ·cases hq:bc (ck _ l (n-1)) with
     | true=>rfl
     | false=>exact absurd (Or.inr hq) c
def qr9 (l:List UInt8) (o:Int×Int):Prop:=o=(0,0)∨(bc o.1=true∧o.2=((enc o.1).length:Int)∧enc o.1++l.drop (enc o.1).length=l)
theorem dV (l:List UInt8):qr9 l (az l):=by
 cases l with
 | nil=>exact .inl rfl
 | cons a l=>
  have hb0:byt (a::l) 0=(a.toNat:Int):=rfl;have ha:=a.toNat_lt;by_cases c1:a.toNat<128
  ·have e:az (a::l)=((a.toNat:Int),1):=by unfold az;rw [if_neg (by simp),hb0,if_pos (by omega)]
   have hp:bc (a.toNat:Int)=true:=by simp [bc];omega
   have en:enc (a.toNat:Int)=[a]:=by rw [enc,qbw hp (by omega)];simp
   exact .inr (by rw [e];simp [hp,en])
  ·by_cases c2:a.toNat<192
   ·exact .inl (by unfold az;rw [if_neg (by simp),hb0,if_neg (by omega),if_pos (by omega)])
   ·by_cases c3:a.toNat<224
    ·have e:az (a::l)=dx (a::l) ((a.toNat:Int) % 32) 2 128:=by unfold az;rw [if_neg (by simp),hb0,if_neg (by omega),if_neg (by omega),if_pos (by omega)]
     rw [e];rcases qbI (a::l) ((a.toNat:Int) % 32) 2 128 with h | ⟨h1,h2,h3,h4,h5⟩
     ·exact .inl h
     ·rw [h5];cases l with
      | nil=>simp at h1
      | cons b l=>
       have hb1:byt (a::b::l) 1=(b.toNat:Int):=rfl;have hb:=b.toNat_lt;simp only [de,ck,hb1,Nat.add_one_sub_one,Bool.true_and,decide_eq_true_eq] at h2 h3 h4 ⊢;have en:enc ((a.toNat:Int) % 32*64+(b.toNat:Int) % 64)=[a,b]:=by
        rw [enc,qgl h4 (by omega) (by omega)];simp only [List.map_cons,List.map_nil];rw [qbp _ a (by omega),qbp _ b (by omega)]
       exact .inr (by simp [h4,en])
    ·by_cases c4:a.toNat<240
     ·have e:az (a::l)=dx (a::l) ((a.toNat:Int) % 16) 3 2048:=by unfold az;rw [if_neg (by simp),hb0,if_neg (by omega),if_neg (by omega),if_neg (by omega),if_pos (by omega)]
      rw [e];rcases qbI (a::l) ((a.toNat:Int) % 16) 3 2048 with h | ⟨h1,h2,h3,h4,h5⟩
      ·exact .inl h
      ·rw [h5];obtain ⟨b,c,l,rfl⟩:=qn2 l (by simp at h1;omega)
       ·skip
        have hb1:byt (a::b::c::l) 1=(b.toNat:Int):=rfl;have hb2:byt (a::b::c::l) 2=(c.toNat:Int):=rfl;have hb:=b.toNat_lt;have hc:=c.toNat_lt;simp only [de,ck,hb1,hb2,Nat.reduceAdd,Nat.add_one_sub_one,Bool.true_and,Bool.and_eq_true,decide_eq_true_eq] at h2 h3 h4 ⊢;have en:enc (((a.toNat:Int) % 16*64+(b.toNat:Int) % 64)*64+(c.toNat:Int) % 64)=[a,b,c]:=by
         rw [enc,qgq h4 (by omega) (by omega)];simp only [List.map_cons,List.map_nil];rw [qbp _ a (by omega),qbp _ b (by omega),qbp _ c (by omega)]
        exact .inr (by simp [h4,en])
     ·by_cases c5:a.toNat<248
      ·have e:az (a::l)=dx (a::l) ((a.toNat:Int) % 8) 4 65536:=by unfold az;rw [if_neg (by simp),hb0,if_neg (by omega),if_neg (by omega),if_neg (by omega),if_neg (by omega),if_pos (by omega)]
       rw [e];rcases qbI (a::l) ((a.toNat:Int) % 8) 4 65536 with h | ⟨h1,h2,h3,h4,h5⟩
       ·exact .inl h
       ·rw [h5];obtain ⟨b,c,d,l,rfl⟩:=qnN l (by simp at h1;omega)
        ·skip
         have hb1:byt (a::b::c::d::l) 1=(b.toNat:Int):=rfl;have hb2:byt (a::b::c::d::l) 2=(c.toNat:Int):=rfl;have hb3:byt (a::b::c::d::l) 3=(d.toNat:Int):=rfl;have hb:=b.toNat_lt;have hc:=c.toNat_lt;have hd:=d.toNat_lt;simp only [de,ck,hb1,hb2,hb3,Nat.reduceAdd,Nat.add_one_sub_one,Bool.true_and,Bool.and_eq_true,decide_eq_true_eq] at h2 h3 h4 ⊢;have h6:=qab h4;have en:enc ((((a.toNat:Int) % 8*64+(b.toNat:Int) % 64)*64+(c.toNat:Int) % 64)*64+(d.toNat:Int) % 64)=[a,b,c,d]:=by
          rw [enc,qgI h4 (by omega)];simp only [List.map_cons,List.map_nil];rw [qbp _ a (by omega),qbp _ b (by omega),qbp _ c (by omega),qbp _ d (by omega)]
         exact .inr (by simp [h4,en])
      ·exact .inl (by unfold az;rw [if_neg (by simp),hb0,if_neg (by omega),if_neg (by omega),if_neg (by omega),if_neg (by omega),if_neg (by omega)])
theorem qas (l:List UInt8):(az l=(0,0))∨(bc (az l).1=true∧1≤(az l).2∧(az l).2≤4∧(az l).2≤l.length):=by
 rcases dV l with h | ⟨h1,h2,h3⟩
 ·exact .inl h
 ·refine .inr ⟨h1,?_,?_,?_⟩
  ·rcases Nat.eq_zero_or_pos (enc (az l).1).length with h0 | h0
   ·have:=List.eq_nil_of_length_eq_zero h0;rw [enc,List.map_eq_nil_iff] at this;unfold dH at this;rw [h1,if_neg (by decide)] at this;split at this
    ·cases this
    ·split at this
     ·cases this
     ·split at this <;> cases this
   ·omega
  ·have:=qen (az l).1;omega
  ·have:=congrArg List.length h3;simp at this;omega
theorem qpr {l:List UInt8} (h:(az l).2≠0):bc (az l).1=true:=by
 rcases qas l with h1 | h1
 ·rw [h1] at h;simp at h
 ·exact h1.1
def qdH:Nat→List UInt8→List Int×Nat
 | 0,_=>([],0)
 | f+1,l=>if (az l).2=0 then ([],0) else ((az l).1::(qdH f (l.drop (az l).2.toNat)).1,(az l).2.toNat+(qdH f (l.drop (az l).2.toNat)).2)
def dj (l:List UInt8):List Int×Nat:=qdH l.length l
theorem qb1 (f:Nat):qdH f []=([],0):=by cases f <;> rfl
theorem qmu:∀ (f g:Nat) (l:List UInt8),l.length≤f→l.length≤g→qdH f l=qdH g l:=by
 intro f;induction f with
 | zero=>
  intro g l h _;rw [List.eq_nil_of_length_eq_zero (show l.length=0 by omega),qb1,qb1]
 | succ f ih=>
  intro g l hf hg;cases g with
  | zero=>rw [List.eq_nil_of_length_eq_zero (show l.length=0 by omega),qb1,qb1]
  | succ g=>
   rcases qas l with h1 | ⟨_,h1,_,h2⟩
   ·simp [qdH,h1]
   ·simp only [qdH];rw [ih g (l.drop (az l).2.toNat) (by simp;omega) (by simp;omega)]
theorem qfv {l:List UInt8} (h:(az l).2=0):dj l=([],0):=by
 unfold dj;cases l with
 | nil=>rfl
 | cons a l=>simp [qdH,h]
theorem qgV {l:List UInt8} (h:(az l).2≠0):dj l=((az l).1::(dj (l.drop (az l).2.toNat)).1,(az l).2.toNat+(dj (l.drop (az l).2.toNat)).2):=by
 rcases qas l with h1 | ⟨_,h1,_,h2⟩
 ·rw [h1] at h;simp at h
 ·obtain ⟨k,hk⟩:∃ k,l.length=k+1:=⟨l.length-1,by omega⟩
  unfold dj;rw [hk,qdH,if_neg h,qmu k _ _ (by simp;omega) (Nat.le_refl _)]
def cF (l:List Int):List UInt8:=(l.map enc).flatten
theorem qcD (p:Int) (l:List Int):cF (p::l)=enc p++cF l:=by simp [cF]
theorem ed (a b:List Int):cF (a++b)=cF a++cF b:=by simp [cF]
theorem qpp {p:Int} (h:bc p=true):1≤(enc p).length:=by
 have:=qas (enc p++[]);rw [qha p h []] at this;rcases this with h1 | h1
 ·have:=congrArg Prod.snd h1;have h2:=congrArg Prod.fst h1;simp at this h2;subst h2;have:enc 0=[]:=this;exact absurd this (by decide)
 ·have:=h1.2.1;simp at this;omega
theorem qgx {P:List UInt8→Prop} (h:∀ l,(∀ k,1≤k→k≤l.length→P (l.drop k))→P l):∀ l,P l:=by
 have:∀ n,∀ l:List UInt8,l.length≤n→P l:=by
  intro n;induction n with
  | zero=>intro l hl;exact h l fun k h1 h2=>by omega
  | succ n ih=>intro l hl;exact h l fun k h1 h2=>ih _ (by simp;omega)
 exact fun l=>this _ l (Nat.le_refl _)
theorem qkq (l:List UInt8):(dj l).2≤l.length:=by
 induction l using qgx with
 | h l ih=>
  by_cases h:(az l).2=0
  ·rw [qfv h];simp
  ·rcases qas l with h1 | ⟨_,h1,_,h2⟩
   ·rw [h1] at h;simp at h
   ·have:=ih (az l).2.toNat (by omega) (by omega);rw [qgV h];simp at this ⊢;omega
theorem ql2 (ps:List Int) (h:∀ p∈ps,bc p=true) (r:List UInt8):dj (cF ps++r)=(ps++(dj r).1,(cF ps).length+(dj r).2):=by
 induction ps with
 | nil=>simp [cF]
 | cons p ps ih=>
  have hp:=h p (by simp);have h1:=qha p hp (cF ps++r);have h2:=qpp hp;have h3:=ih fun q hq=>h q (by simp [hq]);rw [qcD,List.append_assoc];have hn:(az (enc p++(cF ps++r))).2≠0:=by rw [h1];simp;intro h0;rw [h0] at h2;simp at h2
  rw [qgV hn,h1];simp [h3];omega
end Utf
namespace Sm
open Go.RowKit Utf Nu Wo
def qpL (x:Pr):Prop:=
 (12≤x.fm∧x.fm≤15∧af x.ar≠[]∧x.ar≠[]∧x.df=[])∨
 (x.fm=11∧x.ar≠[]∧x.df=[])∨(x.fm=11∧x.ar≠[]∧x.df≠[]∧inS x.ar x.df=true)∨
 (x.fm=17∧x.ar≠[]∧x.df=[])∨
 (¬(11≤x.fm∧x.fm≤15)∧x.fm≠17∧x.ar=[]∧x.df=[])∨
 (x.fm=3∧x.ar=[]∧x.df=[102,97,108,115,101])
instance (x:Pr):Decidable (qpL x):=by unfold qpL;infer_instance
def qqi (L:List Pr) (i:Nat):Bool:=
 decide (i=0∨Op.bytesLess (L.getD (i-1) Pr.zero).nm (L.getD i Pr.zero).nm=true)&&decide (1≤(L.getD i Pr.zero).fm∧(L.getD i Pr.zero).fm≤18)&&(!(L.getD i Pr.zero).mu || decide ((L.getD i Pr.zero).df=[]))&&decide (qpL (L.getD i Pr.zero))
theorem qm3:(qcT.all fun t=>decide (af t≠[])&&(List.range (af t).length).all fun i=>qqi (af t) i)=true:=by decide +kernel
theorem qgE {L:List Pr} {i:Nat} (hi:i<L.length) (h2:qqi L i=true) :
  (∀ h:0<i,Op.bytesLess (L[i-1]'(by omega)).nm L[i].nm=true)∧1≤L[i].fm∧L[i].fm≤18∧(L[i].mu=true→L[i].df=[])∧qpL L[i]:=by
 unfold qqi at h2;have e1:L.getD i Pr.zero=L[i]:=by rw [List.getD_eq_getElem?_getD,List.getElem?_eq_getElem hi];rfl
 have e2:L.getD (i-1) Pr.zero=L[i-1]'(by omega):=by rw [List.getD_eq_getElem?_getD,List.getElem?_eq_getElem (by omega)];rfl
 rw [e1,e2] at h2;simp only [Bool.and_eq_true,decide_eq_true_eq,Bool.or_eq_true,Bool.not_eq_true'] at h2;obtain ⟨⟨⟨h3,h4⟩,h5⟩,h6⟩:=h2;refine ⟨fun h0=>?_,h4.1,h4.2,fun hm=>?_,h6⟩
 ·rcases h3 with h3 | h3
  ·omega
  ·exact h3
 ·rcases h5 with h5 | h5
  ·rw [h5] at hm;cases hm
  ·exact h5
theorem qpG {q:Nat} (hq:q<qcT.length) (i:Nat) (hi:i<(af qcT[q]).length):qqi (af qcT[q]) i=true:=by
 have h:=List.all_eq_true.1 qm3 _ (List.getElem_mem hq);rw [Bool.and_eq_true] at h;exact List.all_eq_true.1 h.2 i (List.mem_range.2 hi)
theorem qom:(qcT.all fun t=>(af t).all fun x=>decide (x.ar.length≤700))=true:=by decide +kernel
theorem qqR {q:Nat} (hq:q<qcT.length) (i:Nat) (hi:i<(af qcT[q]).length):(af qcT[q])[i].ar.length≤700:=
 of_decide_eq_true (List.all_eq_true.1 (List.all_eq_true.1 qom _ (List.getElem_mem hq)) _ (List.getElem_mem hi))
