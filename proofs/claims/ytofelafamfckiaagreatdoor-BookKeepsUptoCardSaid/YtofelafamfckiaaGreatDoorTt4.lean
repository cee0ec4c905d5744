/- Merged: UtfPl. -/
import Derived.Test.YtofelafamfckiaaGreatDoorTt1
import Derived.Laws.BitsLemmas
import Derived.Laws.BitsAllLaws
namespace Go.Proofs.YtofelafamfckiaaGreatDoor
namespace Utf
open Go.RowKit
def aC (n:Int):Bool:=decide (0≤n∧n≤1114111∧(n<55296∨57343<n))
def bh (bits:Int) (l:List UInt8):Nat→Int
 | 0=>bits
 | k+1=>bh bits l k*64+byt l (k+1) % 64
def bE (l:List UInt8):Nat→Bool
 | 0=>true
 | k+1=>bE l k&&decide (byt l (k+1) / 64=2)
theorem qjW (bits:Int) (l:List UInt8) (h0:0≤bits) (k:Nat):0≤bh bits l k:=by
 induction k with
 | zero=>exact h0
 | succ k ih=>have:=qai l (k+1);simp only [bh];omega
theorem qie (bits:Int) (l:List UInt8) (h1:bits≤31):bh bits l 0≤31∧bh bits l 1≤2047∧bh bits l 2≤131071∧bh bits l 3≤8388607:=by
 have a1:=qai l 1;have a2:=qai l 2;have a3:=qai l 3;simp only [bh];omega
theorem qkm (bits:Int) (l:List UInt8) (h1:bits≤31) (k:Nat) (hk:k≤3):bh bits l k≤8388607:=by
 obtain ⟨a,b,c,d⟩:=qie bits l h1;obtain rfl | rfl | rfl | rfl:k=0∨k=1∨k=2∨k=3:=by omega
 all_goals omega
def bQ (l:List UInt8) (bits:Int) (n:Nat) (least:Int):Int×Int:=
 if l.length<n then (0,0) else if bE l (n-1)=false then (0,0)
 else if bh bits l (n-1)<least∨aC (bh bits l (n-1))=false then (0,0) else (bh bits l (n-1),n)
def aj (l:List UInt8):Int×Int:=
 if l.length=0 then (0,0)
 else if byt l 0<128 then (byt l 0,1)
 else if byt l 0<192 then (0,0)
 else if byt l 0<224 then bQ l (byt l 0 % 32) 2 128
 else if byt l 0<240 then bQ l (byt l 0 % 16) 3 2048
 else if byt l 0<248 then bQ l (byt l 0 % 8) 4 65536
 else (0,0)
def qgP (l:List UInt8) (at_:Int):Int×Int:=if at_<0∨(l.length:Int)≤at_ then (0,0) else aj (l.drop at_.toNat)
theorem qfp (l:List UInt8) (b:Int) (n:Nat) (m:Int) (h:l.length<n):bQ l b n m=(0,0):=by rw [bQ,if_pos h]
theorem qfC (l:List UInt8) (k:Nat) (h:bE l k=false):∀ n,k≤n→bE l n=false:=by
 intro n hn;induction n with
 | zero=>
  obtain rfl:k=0:=by omega
  exact h
 | succ n ih=>
  by_cases e:k=n+1
  ·subst e;exact h
  ·simp [bE,ih (by omega)]
theorem qhC (l:List UInt8) (b:Int) (n:Nat) (m:Int) (h:¬l.length<n) (k:Nat) (hk:k≤n-1) (h2:bE l k=false):bQ l b n m=(0,0):=by
 rw [bQ,if_neg h,if_pos (qfC l k h2 _ hk)]
theorem qe9 (l:List UInt8) (b:Int) (k:Nat) (m:Int) (h:bh b l k<m∨aC (bh b l k)=false):bQ l b (k+1) m=(0,0):=by
 unfold bQ;split
 ·rfl
 ·split
  ·rfl
  ·rw [Nat.add_sub_cancel,if_pos h]
theorem qjG (l:List UInt8) (b:Int) (k:Nat) (m:Int) (h:¬l.length<k+1) (hc:bE l k=true) (h1:¬bh b l k<m) (h2:aC (bh b l k)=true) :
  bQ l b (k+1) m=(bh b l k,((k+1:Nat):Int)):=by
 unfold bQ;rw [Nat.add_sub_cancel,if_neg h,if_neg (by rw [hc];decide),if_neg];rintro (a | a)
 ·exact h1 a
 ·rw [h2] at a;cases a
theorem qe4 (l:List UInt8) (p:Int) (h:p<0∨(l.length:Int)≤p):qgP l p=(0,0):=by rw [qgP,if_pos h]
theorem ba (l:List UInt8) (q k:Nat):byt (l.drop q) k=byt l (q+k):=by unfold byt;simp [List.getD_eq_getElem?_getD]
theorem qd6 (s:ByteArray) (q:Nat) (h:q<s.size):qgP s.data.toList q=aj (s.data.toList.drop q):=by
 have:=af s;rw [qgP,if_neg (by omega)];simp
theorem ce (l:List UInt8) (q:Nat) (h:q<l.length):¬(l.drop q).length=0:=by simp;omega
theorem qlj (l:List UInt8) (q:Nat) (c:Int) (h:q<l.length) (g:byt l q=c) (h1:c<128):aj (l.drop q)=(c,1):=by
 unfold aj;rw [if_neg (ce l q h),ba,Nat.add_zero,g,if_pos h1]
theorem qkL (l:List UInt8) (q:Nat) (c:Int) (h:q<l.length) (g:byt l q=c) (h0:128≤c) (h1:c<192):aj (l.drop q)=(0,0):=by
 unfold aj;rw [if_neg (ce l q h),ba,Nat.add_zero,g,if_neg (by omega),if_pos h1]
theorem qkY (l:List UInt8) (q:Nat) (c:Int) (h:q<l.length) (g:byt l q=c) (h0:192≤c) (h1:c<224):aj (l.drop q)=bQ (l.drop q) (c % 32) 2 128:=by
 unfold aj;rw [if_neg (ce l q h),ba,Nat.add_zero,g,if_neg (by omega),if_neg (by omega),if_pos h1]
theorem qlg (l:List UInt8) (q:Nat) (c:Int) (h:q<l.length) (g:byt l q=c) (h0:224≤c) (h1:c<240):aj (l.drop q)=bQ (l.drop q) (c % 16) 3 2048:=by
 unfold aj;rw [if_neg (ce l q h),ba,Nat.add_zero,g,if_neg (by omega),if_neg (by omega),if_neg (by omega),if_pos h1]
theorem qli (l:List UInt8) (q:Nat) (c:Int) (h:q<l.length) (g:byt l q=c) (h0:240≤c) (h1:c<248):aj (l.drop q)=bQ (l.drop q) (c % 8) 4 65536:=by
 unfold aj;rw [if_neg (ce l q h),ba,Nat.add_zero,g,if_neg (by omega),if_neg (by omega),if_neg (by omega),if_neg (by omega),if_pos h1]
theorem qkF (l:List UInt8) (q:Nat) (c:Int) (h:q<l.length) (g:byt l q=c) (h0:248≤c):aj (l.drop q)=(0,0):=by
 unfold aj;rw [if_neg (ce l q h),ba,Nat.add_zero,g,if_neg (by omega),if_neg (by omega),if_neg (by omega),if_neg (by omega),if_neg (by omega)]
theorem qlk (x:Int) (h0:0≤x) (h1:x≤255):bits .and .u8 x 192=x / 64*64:=by
 have h:∀ n:Fin 256,bits .and .u8 (n.val:Int) 192=(n.val:Int) / 64*64:=by decide +kernel
 have:=h ⟨x.toNat,by omega⟩
 simpa [Int.toNat_of_nonneg h0] using this
theorem qgK (x:Int) (h0:0≤x) (h1:x≤255):(bits .and .u8 x 192 != 128) = !(decide (x / 64=2)):=by
 rw [qlk x h0 h1,Bool.eq_iff_iff];simp;omega
theorem qkC (n:Int) (h0:0≤n) (h1:n≤2147483647):bits .and .i32 n 63=n % 64:=
 bits_mask .i32 31 (by decide) wraps_i32 6 (by decide) n h0 (by omega)
def bU (n:Int):List Int:=
 if aC n=false then []
 else if n<128 then [n]
 else if n<2048 then [192+n / 64,128+n % 64]
 else if n<65536 then [224+n / 4096,128+n / 64 % 64,128+n % 64]
 else [240+n / 262144,128+n / 4096 % 64,128+n / 64 % 64,128+n % 64]
def enc (n:Int):List UInt8:=(bU n).map fun x=>UInt8.ofNat x.toNat
theorem qaZ {n:Int} (h:aC n=true):0≤n:=by simp [aC] at h;omega
theorem qaf {n:Int} (h:aC n=true):n≤1114111:=by simp [aC] at h;omega
theorem qdy (n:Int):∀ x∈bU n,0≤x∧x<256:=by
 intro x hx;unfold bU at hx;split at hx
 ·simp at hx
 ·have h1:=qaZ (n:=n) (by simpa using ‹¬aC n=false›);have h2:=qaf (n:=n) (by simpa using ‹¬aC n=false›);split at hx
  ·simp at hx;omega
  ·split at hx
   ·simp at hx;omega
   ·split at hx <;> (simp at hx;omega)
theorem bI (n:Int):Lib.byteCells (enc n)=(bU n).map (Value.int .u8):=by
 simp only [Lib.byteCells,enc,List.map_map];apply List.map_congr_left;intro x hx;obtain ⟨h0,h1⟩:=qdy n x hx;simp [Function.comp];omega
theorem qjT {n:Int} (h:aC n=false):bU n=[]:=by simp [bU,h]
theorem qbb {n:Int} (h:aC n=true) (h1:n<128):bU n=[n]:=by simp [bU,h,h1]
theorem qeo {n:Int} (h:aC n=true) (h0:128≤n) (h1:n<2048):bU n=[192+n / 64,128+n % 64]:=by
 simp [bU,h,h1,show ¬n<128 by omega]
theorem qdP {n:Int} (h:aC n=true) (h0:2048≤n) (h1:n<65536):bU n=[224+n / 4096,128+n / 64 % 64,128+n % 64]:=by
 simp [bU,h,h1,show ¬n<128 by omega,show ¬n<2048 by omega]
theorem qd9 {n:Int} (h:aC n=true) (h0:65536≤n):bU n=[240+n / 262144,128+n / 4096 % 64,128+n / 64 % 64,128+n % 64]:=by
 simp [bU,h,show ¬n<128 by omega,show ¬n<2048 by omega,show ¬n<65536 by omega]
theorem qf6 (n:Int):(bU n).length≤4:=by
 unfold bU;split
 ·simp
 ·split
  ·simp
  ·split
   ·simp
   ·split <;> simp
theorem qcV (n:Int):(enc n).length≤4:=by simpa [enc] using qf6 n
theorem qk0 {n:Int} (h:aC n=false):enc n=[]:=by simp [enc,qjT h]
theorem qaW (p:Int):(enc p).length=(bU p).length:=by simp [enc]
theorem bA (p:Int) (r:List UInt8) (k:Nat) (x:Int) (h:(bU p)[k]? = some x):byt (enc p++r) k=x:=by
 have hk:k<(bU p).length:=by
  rcases Nat.lt_or_ge k (bU p).length with h1 | h1
  ·exact h1
  ·rw [List.getElem?_eq_none h1] at h;cases h
 have hx:=qdy p x (List.mem_of_getElem? h);have:(enc p++r)[k]? = some (UInt8.ofNat x.toNat):=by
  rw [List.getElem?_append_left (by rw [qaW];exact hk),enc,List.getElem?_map,h];rfl
 unfold byt;rw [List.getD_eq_getElem?_getD,this];simp;omega
theorem qeh (l:List UInt8) (b:Int) (n:Nat) (m:Int) (p:Int) (hl:n≤l.length) (hc:bE l (n-1)=true) (ha:bh b l (n-1)=p) (h1:m≤p) (h2:aC p=true):bQ l b n m=(p,(n:Int)):=by
 unfold bQ;rw [if_neg (by omega),if_neg (by rw [hc];decide),ha,if_neg];rintro (a | a)
 ·omega
 ·rw [h2] at a;cases a
theorem qeY (p:Int) (h:aC p=true) (r:List UInt8):aj (enc p++r)=(p,((enc p).length:Int)):=by
 have h0:=qaZ h;have h1:=qaf h;have hl:(enc p++r).length=(enc p).length+r.length:=List.length_append;by_cases c1:p<128
 ·have e:=qbb h c1;have b0:=bA p r 0 p (by rw [e];rfl);have hn:(enc p).length=1:=by rw [qaW,e];rfl
  unfold aj;rw [if_neg (by omega),b0,if_pos c1,hn];rfl
 ·by_cases c2:p<2048
  ·have e:=qeo h (by omega) c2;have b0:=bA p r 0 _ (by rw [e];rfl);have b1:=bA p r 1 (128+p % 64) (by rw [e];rfl);have hn:(enc p).length=2:=by rw [qaW,e];rfl
   unfold aj;rw [if_neg (by omega),b0,if_neg (by omega),if_neg (by omega),if_pos (by omega),hn];refine qeh _ _ _ _ p (by omega) ?_ ?_ (by omega) h
   ·simp [bE,b1];omega
   ·simp [bh,b1];omega
  ·by_cases c3:p<65536
   ·have e:=qdP h (by omega) c3;have b0:=bA p r 0 _ (by rw [e];rfl);have b1:=bA p r 1 (128+p / 64 % 64) (by rw [e];rfl);have b2:=bA p r 2 (128+p % 64) (by rw [e];rfl);have hn:(enc p).length=3:=by rw [qaW,e];rfl
    unfold aj;rw [if_neg (by omega),b0,if_neg (by omega),if_neg (by omega),if_neg (by omega),if_pos (by omega),hn];refine qeh _ _ _ _ p (by omega) ?_ ?_ (by omega) h
    ·simp [bE,b1,b2];omega
    ·simp [bh,b1,b2];omega
   ·have e:=qd9 h (by omega);have b0:=bA p r 0 _ (by rw [e];rfl);have b1:=bA p r 1 (128+p / 4096 % 64) (by rw [e];rfl);have b2:=bA p r 2 (128+p / 64 % 64) (by rw [e];rfl);have b3:=bA p r 3 (128+p % 64) (by rw [e];rfl);have hn:(enc p).length=4:=by rw [qaW,e];rfl
    unfold aj;rw [if_neg (by omega),b0,if_neg (by omega),if_neg (by omega),if_neg (by omega),if_neg (by omega),if_pos (by omega),hn];refine qeh _ _ _ _ p (by omega) ?_ ?_ (by omega) h
    ·simp [bE,b1,b2,b3];omega
    ·simp [bh,b1,b2,b3];omega
theorem qi2 (l:List UInt8) (h:2≤l.length):∃ b c r,l=b::c::r:=by
 cases l with
 | nil=>simp at h
 | cons b l=>
  cases l with
  | nil=>simp at h
  | cons c r=>exact ⟨b,c,r,rfl⟩
theorem qiy (l:List UInt8) (h:3≤l.length):∃ b c d r,l=b::c::d::r:=by
 obtain ⟨b,c,r,rfl⟩:=qi2 l (by omega);cases r with
 | nil=>simp at h
 | cons d r=>exact ⟨b,c,d,r,rfl⟩
theorem qa7 (x:Int) (a:UInt8) (h:x=(a.toNat:Int)):UInt8.ofNat x.toNat=a:=by subst h;simp
theorem qbg (l:List UInt8) (b:Int) (n:Nat) (m:Int):bQ l b n m=(0,0)∨(n≤l.length∧bE l (n-1)=true∧m≤bh b l (n-1)∧aC (bh b l (n-1))=true∧bQ l b n m=(bh b l (n-1),(n:Int))):=by
 unfold bQ;split
 ·exact .inl rfl
 ·split
  ·exact .inl rfl
  ·split
   ·exact .inl rfl
   ·rename_i a b c
    refine .inr ⟨by omega,by simpa using b,?_,?_,rfl⟩
    ·omega
    ·cases hq:aC (bh _ l (n-1)) with
     | true=>rfl
     | false=>exact absurd (Or.inr hq) c
def qk8 (l:List UInt8) (o:Int×Int):Prop:=o=(0,0)∨(aC o.1=true∧o.2=((enc o.1).length:Int)∧enc o.1++l.drop (enc o.1).length=l)
theorem ck (l:List UInt8):qk8 l (aj l):=by
 cases l with
 | nil=>exact .inl rfl
 | cons a l=>
  have hb0:byt (a::l) 0=(a.toNat:Int):=rfl;have ha:=a.toNat_lt;by_cases c1:a.toNat<128
  ·have e:aj (a::l)=((a.toNat:Int),1):=by unfold aj;rw [if_neg (by simp),hb0,if_pos (by omega)]
   have hp:aC (a.toNat:Int)=true:=by simp [aC];omega
   have en:enc (a.toNat:Int)=[a]:=by rw [enc,qbb hp (by omega)];simp
   exact .inr (by rw [e];simp [hp,en])
  ·by_cases c2:a.toNat<192
   ·exact .inl (by unfold aj;rw [if_neg (by simp),hb0,if_neg (by omega),if_pos (by omega)])
   ·by_cases c3:a.toNat<224
    ·have e:aj (a::l)=bQ (a::l) ((a.toNat:Int) % 32) 2 128:=by unfold aj;rw [if_neg (by simp),hb0,if_neg (by omega),if_neg (by omega),if_pos (by omega)]
     rw [e];rcases qbg (a::l) ((a.toNat:Int) % 32) 2 128 with h | ⟨h1,h2,h3,h4,h5⟩
     ·exact .inl h
     ·rw [h5];cases l with
      | nil=>simp at h1
      | cons b l=>
       have hb1:byt (a::b::l) 1=(b.toNat:Int):=rfl;have hb:=b.toNat_lt;simp only [bE,bh,hb1,Nat.add_one_sub_one,Bool.true_and,decide_eq_true_eq] at h2 h3 h4 ⊢;have en:enc ((a.toNat:Int) % 32*64+(b.toNat:Int) % 64)=[a,b]:=by
        rw [enc,qeo h4 (by omega) (by omega)];simp only [List.map_cons,List.map_nil];rw [qa7 _ a (by omega),qa7 _ b (by omega)]
       exact .inr (by simp [h4,en])
    ·by_cases c4:a.toNat<240
     ·have e:aj (a::l)=bQ (a::l) ((a.toNat:Int) % 16) 3 2048:=by unfold aj;rw [if_neg (by simp),hb0,if_neg (by omega),if_neg (by omega),if_neg (by omega),if_pos (by omega)]
      rw [e];rcases qbg (a::l) ((a.toNat:Int) % 16) 3 2048 with h | ⟨h1,h2,h3,h4,h5⟩
      ·exact .inl h
      ·rw [h5];obtain ⟨b,c,l,rfl⟩:=qi2 l (by simp at h1;omega)
       ·skip
        have hb1:byt (a::b::c::l) 1=(b.toNat:Int):=rfl;have hb2:byt (a::b::c::l) 2=(c.toNat:Int):=rfl;have hb:=b.toNat_lt;have hc:=c.toNat_lt;simp only [bE,bh,hb1,hb2,Nat.reduceAdd,Nat.add_one_sub_one,Bool.true_and,Bool.and_eq_true,decide_eq_true_eq] at h2 h3 h4 ⊢;have en:enc (((a.toNat:Int) % 16*64+(b.toNat:Int) % 64)*64+(c.toNat:Int) % 64)=[a,b,c]:=by
         rw [enc,qdP h4 (by omega) (by omega)];simp only [List.map_cons,List.map_nil];rw [qa7 _ a (by omega),qa7 _ b (by omega),qa7 _ c (by omega)]
        exact .inr (by simp [h4,en])
     ·by_cases c5:a.toNat<248
      ·have e:aj (a::l)=bQ (a::l) ((a.toNat:Int) % 8) 4 65536:=by unfold aj;rw [if_neg (by simp),hb0,if_neg (by omega),if_neg (by omega),if_neg (by omega),if_neg (by omega),if_pos (by omega)]
       rw [e];rcases qbg (a::l) ((a.toNat:Int) % 8) 4 65536 with h | ⟨h1,h2,h3,h4,h5⟩
       ·exact .inl h
       ·rw [h5];obtain ⟨b,c,d,l,rfl⟩:=qiy l (by simp at h1;omega)
        ·skip
         have hb1:byt (a::b::c::d::l) 1=(b.toNat:Int):=rfl;have hb2:byt (a::b::c::d::l) 2=(c.toNat:Int):=rfl;have hb3:byt (a::b::c::d::l) 3=(d.toNat:Int):=rfl;have hb:=b.toNat_lt;have hc:=c.toNat_lt;have hd:=d.toNat_lt;simp only [bE,bh,hb1,hb2,hb3,Nat.reduceAdd,Nat.add_one_sub_one,Bool.true_and,Bool.and_eq_true,decide_eq_true_eq] at h2 h3 h4 ⊢;have h6:=qaf h4;have en:enc ((((a.toNat:Int) % 8*64+(b.toNat:Int) % 64)*64+(c.toNat:Int) % 64)*64+(d.toNat:Int) % 64)=[a,b,c,d]:=by
          rw [enc,qd9 h4 (by omega)];simp only [List.map_cons,List.map_nil];rw [qa7 _ a (by omega),qa7 _ b (by omega),qa7 _ c (by omega),qa7 _ d (by omega)]
         exact .inr (by simp [h4,en])
      ·exact .inl (by unfold aj;rw [if_neg (by simp),hb0,if_neg (by omega),if_neg (by omega),if_neg (by omega),if_neg (by omega),if_neg (by omega)])
theorem qaA (l:List UInt8):(aj l=(0,0))∨(aC (aj l).1=true∧1≤(aj l).2∧(aj l).2≤4∧(aj l).2≤l.length):=by
 rcases ck l with h | ⟨h1,h2,h3⟩
 ·exact .inl h
 ·refine .inr ⟨h1,?_,?_,?_⟩
  ·rcases Nat.eq_zero_or_pos (enc (aj l).1).length with h0 | h0
   ·have:=List.eq_nil_of_length_eq_zero h0;rw [enc,List.map_eq_nil_iff] at this;unfold bU at this;rw [h1,if_neg (by decide)] at this;split at this
    ·cases this
    ·split at this
     ·cases this
     ·split at this <;> cases this
   ·omega
  ·have:=qcV (aj l).1;omega
  ·have:=congrArg List.length h3;simp at this;omega
theorem qkg {l:List UInt8} (h:(aj l).2≠0):aC (aj l).1=true:=by
 rcases qaA l with h1 | h1
 ·rw [h1] at h;simp at h
 ·exact h1.1
def qcR:Nat→List UInt8→List Int×Nat
 | 0,_=>([],0)
 | f+1,l=>if (aj l).2=0 then ([],0) else ((aj l).1::(qcR f (l.drop (aj l).2.toNat)).1,(aj l).2.toNat+(qcR f (l.drop (aj l).2.toNat)).2)
def bF (l:List UInt8):List Int×Nat:=qcR l.length l
theorem qbA (f:Nat):qcR f []=([],0):=by cases f <;> rfl
theorem qhu:∀ (f g:Nat) (l:List UInt8),l.length≤f→l.length≤g→qcR f l=qcR g l:=by
 intro f;induction f with
 | zero=>
  intro g l h _;rw [List.eq_nil_of_length_eq_zero (show l.length=0 by omega),qbA,qbA]
 | succ f ih=>
  intro g l hf hg;cases g with
  | zero=>rw [List.eq_nil_of_length_eq_zero (show l.length=0 by omega),qbA,qbA]
  | succ g=>
   rcases qaA l with h1 | ⟨_,h1,_,h2⟩
   ·simp [qcR,h1]
   ·simp only [qcR];rw [ih g (l.drop (aj l).2.toNat) (by simp;omega) (by simp;omega)]
theorem qdK {l:List UInt8} (h:(aj l).2=0):bF l=([],0):=by
 unfold bF;cases l with
 | nil=>rfl
 | cons a l=>simp [qcR,h]
theorem qdV {l:List UInt8} (h:(aj l).2≠0):bF l=((aj l).1::(bF (l.drop (aj l).2.toNat)).1,(aj l).2.toNat+(bF (l.drop (aj l).2.toNat)).2):=by
 rcases qaA l with h1 | ⟨_,h1,_,h2⟩
 ·rw [h1] at h;simp at h
 ·obtain ⟨k,hk⟩:∃ k,l.length=k+1:=⟨l.length-1,by omega⟩
  unfold bF;rw [hk,qcR,if_neg h,qhu k _ _ (by simp;omega) (Nat.le_refl _)]
def bt (l:List Int):List UInt8:=(l.map enc).flatten
theorem qbV (p:Int) (l:List Int):bt (p::l)=enc p++bt l:=by simp [bt]
theorem ct (a b:List Int):bt (a++b)=bt a++bt b:=by simp [bt]
theorem qjr {p:Int} (h:aC p=true):1≤(enc p).length:=by
 have:=qaA (enc p++[]);rw [qeY p h []] at this;rcases this with h1 | h1
 ·have:=congrArg Prod.snd h1;have h2:=congrArg Prod.fst h1;simp at this h2;subst h2;have:enc 0=[]:=this;exact absurd this (by decide)
 ·have:=h1.2.1;simp at this;omega
theorem qd7 {P:List UInt8→Prop} (h:∀ l,(∀ k,1≤k→k≤l.length→P (l.drop k))→P l):∀ l,P l:=by
 have:∀ n,∀ l:List UInt8,l.length≤n→P l:=by
  intro n;induction n with
  | zero=>intro l hl;exact h l fun k h1 h2=>by omega
  | succ n ih=>intro l hl;exact h l fun k h1 h2=>ih _ (by simp;omega)
 exact fun l=>this _ l (Nat.le_refl _)
theorem qgw (l:List UInt8):(bF l).2≤l.length:=by
 induction l using qd7 with
 | h l ih=>
  by_cases h:(aj l).2=0
  ·rw [qdK h];simp
  ·rcases qaA l with h1 | ⟨_,h1,_,h2⟩
   ·rw [h1] at h;simp at h
   ·have:=ih (aj l).2.toNat (by omega) (by omega);rw [qdV h];simp at this ⊢;omega
theorem qgF (ps:List Int) (h:∀ p∈ps,aC p=true) (r:List UInt8):bF (bt ps++r)=(ps++(bF r).1,(bt ps).length+(bF r).2):=by
 induction ps with
 | nil=>simp [bt]
 | cons p ps ih=>
  have hp:=h p (by simp);have h1:=qeY p hp (bt ps++r);have h2:=qjr hp;have h3:=ih fun q hq=>h q (by simp [hq]);rw [qbV,List.append_assoc];have hn:(aj (enc p++(bt ps++r))).2≠0:=by rw [h1];simp;intro h0;rw [h0] at h2;simp at h2
  rw [qdV hn,h1];simp [h3];omega
