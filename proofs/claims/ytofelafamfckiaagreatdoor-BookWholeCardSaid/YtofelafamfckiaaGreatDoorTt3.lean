/- Merged: UtfPl. -/
import Derived.Test.YtofelafamfckiaaGreatDoorTt0
import Derived.Laws.BitsLemmas
import Derived.Laws.BitsAllLaws
namespace Go.Proofs.YtofelafamfckiaaGreatDoor
namespace Utf
open Go.RowKit
def aH (n:Int):Bool:=decide (0≤n∧n≤1114111∧(n<55296∨57343<n))
def bq (bits:Int) (l:List UInt8):Nat→Int
 | 0=>bits
 | k+1=>bq bits l k*64+byt l (k+1) % 64
def bT (l:List UInt8):Nat→Bool
 | 0=>true
 | k+1=>bT l k&&decide (byt l (k+1) / 64=2)
theorem qkp (bits:Int) (l:List UInt8) (h0:0≤bits) (k:Nat):0≤bq bits l k:=by
 induction k with
 | zero=>exact h0
 | succ k ih=>have:=qaj l (k+1);simp only [bq];omega
theorem qiF (bits:Int) (l:List UInt8) (h1:bits≤31):bq bits l 0≤31∧bq bits l 1≤2047∧bq bits l 2≤131071∧bq bits l 3≤8388607:=by
 have a1:=qaj l 1;have a2:=qaj l 2;have a3:=qaj l 3;simp only [bq];omega
theorem qj2 (bits:Int) (l:List UInt8) (h1:bits≤31) (k:Nat) (hk:k≤3):bq bits l k≤8388607:=by
 obtain ⟨a,b,c,d⟩:=qiF bits l h1;obtain rfl | rfl | rfl | rfl:k=0∨k=1∨k=2∨k=3:=by omega
 all_goals omega
def cg (l:List UInt8) (bits:Int) (n:Nat) (least:Int):Int×Int:=
 if l.length<n then (0,0) else if bT l (n-1)=false then (0,0)
 else if bq bits l (n-1)<least∨aH (bq bits l (n-1))=false then (0,0) else (bq bits l (n-1),n)
def ao (l:List UInt8):Int×Int:=
 if l.length=0 then (0,0)
 else if byt l 0<128 then (byt l 0,1)
 else if byt l 0<192 then (0,0)
 else if byt l 0<224 then cg l (byt l 0 % 32) 2 128
 else if byt l 0<240 then cg l (byt l 0 % 16) 3 2048
 else if byt l 0<248 then cg l (byt l 0 % 8) 4 65536
 else (0,0)
def qg1 (l:List UInt8) (at_:Int):Int×Int:=if at_<0∨(l.length:Int)≤at_ then (0,0) else ao (l.drop at_.toNat)
theorem qfZ (l:List UInt8) (b:Int) (n:Nat) (m:Int) (h:l.length<n):cg l b n m=(0,0):=by rw [cg,if_pos h]
theorem qfL (l:List UInt8) (k:Nat) (h:bT l k=false):∀ n,k≤n→bT l n=false:=by
 intro n hn;induction n with
 | zero=>
  obtain rfl:k=0:=by omega
  exact h
 | succ n ih=>
  by_cases e:k=n+1
  ·subst e;exact h
  ·simp [bT,ih (by omega)]
theorem qg2 (l:List UInt8) (b:Int) (n:Nat) (m:Int) (h:¬l.length<n) (k:Nat) (hk:k≤n-1) (h2:bT l k=false):cg l b n m=(0,0):=by
 rw [cg,if_neg h,if_pos (qfL l k h2 _ hk)]
theorem qeO (l:List UInt8) (b:Int) (k:Nat) (m:Int) (h:bq b l k<m∨aH (bq b l k)=false):cg l b (k+1) m=(0,0):=by
 unfold cg;split
 ·rfl
 ·split
  ·rfl
  ·rw [Nat.add_sub_cancel,if_pos h]
theorem qkJ (l:List UInt8) (b:Int) (k:Nat) (m:Int) (h:¬l.length<k+1) (hc:bT l k=true) (h1:¬bq b l k<m) (h2:aH (bq b l k)=true) :
  cg l b (k+1) m=(bq b l k,((k+1:Nat):Int)):=by
 unfold cg;rw [Nat.add_sub_cancel,if_neg h,if_neg (by rw [hc];decide),if_neg];rintro (a | a)
 ·exact h1 a
 ·rw [h2] at a;cases a
theorem qeU (l:List UInt8) (p:Int) (h:p<0∨(l.length:Int)≤p):qg1 l p=(0,0):=by rw [qg1,if_pos h]
theorem bm (l:List UInt8) (q k:Nat):byt (l.drop q) k=byt l (q+k):=by unfold byt;simp [List.getD_eq_getElem?_getD]
theorem qdR (s:ByteArray) (q:Nat) (h:q<s.size):qg1 s.data.toList q=ao (s.data.toList.drop q):=by
 have:=af s;rw [qg1,if_neg (by omega)];simp
theorem cy (l:List UInt8) (q:Nat) (h:q<l.length):¬(l.drop q).length=0:=by simp;omega
theorem qlt (l:List UInt8) (q:Nat) (c:Int) (h:q<l.length) (g:byt l q=c) (h1:c<128):ao (l.drop q)=(c,1):=by
 unfold ao;rw [if_neg (cy l q h),bm,Nat.add_zero,g,if_pos h1]
theorem qlx (l:List UInt8) (q:Nat) (c:Int) (h:q<l.length) (g:byt l q=c) (h0:128≤c) (h1:c<192):ao (l.drop q)=(0,0):=by
 unfold ao;rw [if_neg (cy l q h),bm,Nat.add_zero,g,if_neg (by omega),if_pos h1]
theorem qlO (l:List UInt8) (q:Nat) (c:Int) (h:q<l.length) (g:byt l q=c) (h0:192≤c) (h1:c<224):ao (l.drop q)=cg (l.drop q) (c % 32) 2 128:=by
 unfold ao;rw [if_neg (cy l q h),bm,Nat.add_zero,g,if_neg (by omega),if_neg (by omega),if_pos h1]
theorem qlu (l:List UInt8) (q:Nat) (c:Int) (h:q<l.length) (g:byt l q=c) (h0:224≤c) (h1:c<240):ao (l.drop q)=cg (l.drop q) (c % 16) 3 2048:=by
 unfold ao;rw [if_neg (cy l q h),bm,Nat.add_zero,g,if_neg (by omega),if_neg (by omega),if_neg (by omega),if_pos h1]
theorem qlW (l:List UInt8) (q:Nat) (c:Int) (h:q<l.length) (g:byt l q=c) (h0:240≤c) (h1:c<248):ao (l.drop q)=cg (l.drop q) (c % 8) 4 65536:=by
 unfold ao;rw [if_neg (cy l q h),bm,Nat.add_zero,g,if_neg (by omega),if_neg (by omega),if_neg (by omega),if_neg (by omega),if_pos h1]
theorem qlc (l:List UInt8) (q:Nat) (c:Int) (h:q<l.length) (g:byt l q=c) (h0:248≤c):ao (l.drop q)=(0,0):=by
 unfold ao;rw [if_neg (cy l q h),bm,Nat.add_zero,g,if_neg (by omega),if_neg (by omega),if_neg (by omega),if_neg (by omega),if_neg (by omega)]
theorem qmb (x:Int) (h0:0≤x) (h1:x≤255):bits .and .u8 x 192=x / 64*64:=by
 have h:∀ n:Fin 256,bits .and .u8 (n.val:Int) 192=(n.val:Int) / 64*64:=by decide +kernel
 have:=h ⟨x.toNat,by omega⟩
 simpa [Int.toNat_of_nonneg h0] using this
theorem qhJ (x:Int) (h0:0≤x) (h1:x≤255):(bits .and .u8 x 192 != 128) = !(decide (x / 64=2)):=by
 rw [qmb x h0 h1,Bool.eq_iff_iff];simp;omega
theorem qmc (n:Int) (h0:0≤n) (h1:n≤2147483647):bits .and .i32 n 63=n % 64:=
 bits_mask .i32 31 (by decide) wraps_i32 6 (by decide) n h0 (by omega)
def cn (n:Int):List Int:=
 if aH n=false then []
 else if n<128 then [n]
 else if n<2048 then [192+n / 64,128+n % 64]
 else if n<65536 then [224+n / 4096,128+n / 64 % 64,128+n % 64]
 else [240+n / 262144,128+n / 4096 % 64,128+n / 64 % 64,128+n % 64]
def enc (n:Int):List UInt8:=(cn n).map fun x=>UInt8.ofNat x.toNat
theorem qaT {n:Int} (h:aH n=true):0≤n:=by simp [aH] at h;omega
theorem qai {n:Int} (h:aH n=true):n≤1114111:=by simp [aH] at h;omega
theorem qdI (n:Int):∀ x∈cn n,0≤x∧x<256:=by
 intro x hx;unfold cn at hx;split at hx
 ·simp at hx
 ·have h1:=qaT (n:=n) (by simpa using ‹¬aH n=false›);have h2:=qai (n:=n) (by simpa using ‹¬aH n=false›);split at hx
  ·simp at hx;omega
  ·split at hx
   ·simp at hx;omega
   ·split at hx <;> (simp at hx;omega)
theorem b8 (n:Int):Lib.byteCells (enc n)=(cn n).map (Value.int .u8):=by
 simp only [Lib.byteCells,enc,List.map_map];apply List.map_congr_left;intro x hx;obtain ⟨h0,h1⟩:=qdI n x hx;simp [Function.comp];omega
theorem qjV {n:Int} (h:aH n=false):cn n=[]:=by simp [cn,h]
theorem qba {n:Int} (h:aH n=true) (h1:n<128):cn n=[n]:=by simp [cn,h,h1]
theorem qeD {n:Int} (h:aH n=true) (h0:128≤n) (h1:n<2048):cn n=[192+n / 64,128+n % 64]:=by
 simp [cn,h,h1,show ¬n<128 by omega]
theorem qdX {n:Int} (h:aH n=true) (h0:2048≤n) (h1:n<65536):cn n=[224+n / 4096,128+n / 64 % 64,128+n % 64]:=by
 simp [cn,h,h1,show ¬n<128 by omega,show ¬n<2048 by omega]
theorem qd1 {n:Int} (h:aH n=true) (h0:65536≤n):cn n=[240+n / 262144,128+n / 4096 % 64,128+n / 64 % 64,128+n % 64]:=by
 simp [cn,h,show ¬n<128 by omega,show ¬n<2048 by omega,show ¬n<65536 by omega]
theorem qgS (n:Int):(cn n).length≤4:=by
 unfold cn;split
 ·simp
 ·split
  ·simp
  ·split
   ·simp
   ·split <;> simp
theorem qcq (n:Int):(enc n).length≤4:=by simpa [enc] using qgS n
theorem qme {n:Int} (h:aH n=false):enc n=[]:=by simp [enc,qjV h]
theorem qaU (p:Int):(enc p).length=(cn p).length:=by simp [enc]
theorem bN (p:Int) (r:List UInt8) (k:Nat) (x:Int) (h:(cn p)[k]? = some x):byt (enc p++r) k=x:=by
 have hk:k<(cn p).length:=by
  rcases Nat.lt_or_ge k (cn p).length with h1 | h1
  ·exact h1
  ·rw [List.getElem?_eq_none h1] at h;cases h
 have hx:=qdI p x (List.mem_of_getElem? h);have:(enc p++r)[k]? = some (UInt8.ofNat x.toNat):=by
  rw [List.getElem?_append_left (by rw [qaU];exact hk),enc,List.getElem?_map,h];rfl
 unfold byt;rw [List.getD_eq_getElem?_getD,this];simp;omega
theorem qdW (l:List UInt8) (b:Int) (n:Nat) (m:Int) (p:Int) (hl:n≤l.length) (hc:bT l (n-1)=true) (ha:bq b l (n-1)=p) (h1:m≤p) (h2:aH p=true):cg l b n m=(p,(n:Int)):=by
 unfold cg;rw [if_neg (by omega),if_neg (by rw [hc];decide),ha,if_neg];rintro (a | a)
 ·omega
 ·rw [h2] at a;cases a
theorem qeZ (p:Int) (h:aH p=true) (r:List UInt8):ao (enc p++r)=(p,((enc p).length:Int)):=by
 have h0:=qaT h;have h1:=qai h;have hl:(enc p++r).length=(enc p).length+r.length:=List.length_append;by_cases c1:p<128
 ·have e:=qba h c1;have b0:=bN p r 0 p (by rw [e];rfl);have hn:(enc p).length=1:=by rw [qaU,e];rfl
  unfold ao;rw [if_neg (by omega),b0,if_pos c1,hn];rfl
 ·by_cases c2:p<2048
  ·have e:=qeD h (by omega) c2;have b0:=bN p r 0 _ (by rw [e];rfl);have b1:=bN p r 1 (128+p % 64) (by rw [e];rfl);have hn:(enc p).length=2:=by rw [qaU,e];rfl
   unfold ao;rw [if_neg (by omega),b0,if_neg (by omega),if_neg (by omega),if_pos (by omega),hn];refine qdW _ _ _ _ p (by omega) ?_ ?_ (by omega) h
   ·simp [bT,b1];omega
   ·simp [bq,b1];omega
  ·by_cases c3:p<65536
   ·have e:=qdX h (by omega) c3;have b0:=bN p r 0 _ (by rw [e];rfl);have b1:=bN p r 1 (128+p / 64 % 64) (by rw [e];rfl);have b2:=bN p r 2 (128+p % 64) (by rw [e];rfl);have hn:(enc p).length=3:=by rw [qaU,e];rfl
    unfold ao;rw [if_neg (by omega),b0,if_neg (by omega),if_neg (by omega),if_neg (by omega),if_pos (by omega),hn];refine qdW _ _ _ _ p (by omega) ?_ ?_ (by omega) h
    ·simp [bT,b1,b2];omega
    ·simp [bq,b1,b2];omega
   ·have e:=qd1 h (by omega);have b0:=bN p r 0 _ (by rw [e];rfl);have b1:=bN p r 1 (128+p / 4096 % 64) (by rw [e];rfl);have b2:=bN p r 2 (128+p / 64 % 64) (by rw [e];rfl);have b3:=bN p r 3 (128+p % 64) (by rw [e];rfl);have hn:(enc p).length=4:=by rw [qaU,e];rfl
    unfold ao;rw [if_neg (by omega),b0,if_neg (by omega),if_neg (by omega),if_neg (by omega),if_neg (by omega),if_pos (by omega),hn];refine qdW _ _ _ _ p (by omega) ?_ ?_ (by omega) h
    ·simp [bT,b1,b2,b3];omega
    ·simp [bq,b1,b2,b3];omega
theorem qju (l:List UInt8) (h:2≤l.length):∃ b c r,l=b::c::r:=by
 cases l with
 | nil=>simp at h
 | cons b l=>
  cases l with
  | nil=>simp at h
  | cons c r=>exact ⟨b,c,r,rfl⟩
theorem qjx (l:List UInt8) (h:3≤l.length):∃ b c d r,l=b::c::d::r:=by
 obtain ⟨b,c,r,rfl⟩:=qju l (by omega);cases r with
 | nil=>simp at h
 | cons d r=>exact ⟨b,c,d,r,rfl⟩
theorem qa7 (x:Int) (a:UInt8) (h:x=(a.toNat:Int)):UInt8.ofNat x.toNat=a:=by subst h;simp
theorem qbi (l:List UInt8) (b:Int) (n:Nat) (m:Int):cg l b n m=(0,0)∨(n≤l.length∧bT l (n-1)=true∧m≤bq b l (n-1)∧aH (bq b l (n-1))=true∧cg l b n m=(bq b l (n-1),(n:Int))):=by
 unfold cg;split
 ·exact .inl rfl
 ·split
  ·exact .inl rfl
  ·split
   ·exact .inl rfl
   ·rename_i a b c
    refine .inr ⟨by omega,by simpa using b,?_,?_,rfl⟩
    ·omega
    ·cases hq:aH (bq _ l (n-1)) with
     | true=>rfl
     | false=>exact absurd (Or.inr hq) c
def ql7 (l:List UInt8) (o:Int×Int):Prop:=o=(0,0)∨(aH o.1=true∧o.2=((enc o.1).length:Int)∧enc o.1++l.drop (enc o.1).length=l)
theorem cE (l:List UInt8):ql7 l (ao l):=by
 cases l with
 | nil=>exact .inl rfl
 | cons a l=>
  have hb0:byt (a::l) 0=(a.toNat:Int):=rfl;have ha:=a.toNat_lt;by_cases c1:a.toNat<128
  ·have e:ao (a::l)=((a.toNat:Int),1):=by unfold ao;rw [if_neg (by simp),hb0,if_pos (by omega)]
   have hp:aH (a.toNat:Int)=true:=by simp [aH];omega
   have en:enc (a.toNat:Int)=[a]:=by rw [enc,qba hp (by omega)];simp
   exact .inr (by rw [e];simp [hp,en])
  ·by_cases c2:a.toNat<192
   ·exact .inl (by unfold ao;rw [if_neg (by simp),hb0,if_neg (by omega),if_pos (by omega)])
   ·by_cases c3:a.toNat<224
    ·have e:ao (a::l)=cg (a::l) ((a.toNat:Int) % 32) 2 128:=by unfold ao;rw [if_neg (by simp),hb0,if_neg (by omega),if_neg (by omega),if_pos (by omega)]
     rw [e];rcases qbi (a::l) ((a.toNat:Int) % 32) 2 128 with h | ⟨h1,h2,h3,h4,h5⟩
     ·exact .inl h
     ·rw [h5];cases l with
      | nil=>simp at h1
      | cons b l=>
       have hb1:byt (a::b::l) 1=(b.toNat:Int):=rfl;have hb:=b.toNat_lt;simp only [bT,bq,hb1,Nat.add_one_sub_one,Bool.true_and,decide_eq_true_eq] at h2 h3 h4 ⊢;have en:enc ((a.toNat:Int) % 32*64+(b.toNat:Int) % 64)=[a,b]:=by
        rw [enc,qeD h4 (by omega) (by omega)];simp only [List.map_cons,List.map_nil];rw [qa7 _ a (by omega),qa7 _ b (by omega)]
       exact .inr (by simp [h4,en])
    ·by_cases c4:a.toNat<240
     ·have e:ao (a::l)=cg (a::l) ((a.toNat:Int) % 16) 3 2048:=by unfold ao;rw [if_neg (by simp),hb0,if_neg (by omega),if_neg (by omega),if_neg (by omega),if_pos (by omega)]
      rw [e];rcases qbi (a::l) ((a.toNat:Int) % 16) 3 2048 with h | ⟨h1,h2,h3,h4,h5⟩
      ·exact .inl h
      ·rw [h5];obtain ⟨b,c,l,rfl⟩:=qju l (by simp at h1;omega)
       ·skip
        have hb1:byt (a::b::c::l) 1=(b.toNat:Int):=rfl;have hb2:byt (a::b::c::l) 2=(c.toNat:Int):=rfl;have hb:=b.toNat_lt;have hc:=c.toNat_lt;simp only [bT,bq,hb1,hb2,Nat.reduceAdd,Nat.add_one_sub_one,Bool.true_and,Bool.and_eq_true,decide_eq_true_eq] at h2 h3 h4 ⊢;have en:enc (((a.toNat:Int) % 16*64+(b.toNat:Int) % 64)*64+(c.toNat:Int) % 64)=[a,b,c]:=by
         rw [enc,qdX h4 (by omega) (by omega)];simp only [List.map_cons,List.map_nil];rw [qa7 _ a (by omega),qa7 _ b (by omega),qa7 _ c (by omega)]
        exact .inr (by simp [h4,en])
     ·by_cases c5:a.toNat<248
      ·have e:ao (a::l)=cg (a::l) ((a.toNat:Int) % 8) 4 65536:=by unfold ao;rw [if_neg (by simp),hb0,if_neg (by omega),if_neg (by omega),if_neg (by omega),if_neg (by omega),if_pos (by omega)]
       rw [e];rcases qbi (a::l) ((a.toNat:Int) % 8) 4 65536 with h | ⟨h1,h2,h3,h4,h5⟩
       ·exact .inl h
       ·rw [h5];obtain ⟨b,c,d,l,rfl⟩:=qjx l (by simp at h1;omega)
        ·skip
         have hb1:byt (a::b::c::d::l) 1=(b.toNat:Int):=rfl;have hb2:byt (a::b::c::d::l) 2=(c.toNat:Int):=rfl;have hb3:byt (a::b::c::d::l) 3=(d.toNat:Int):=rfl;have hb:=b.toNat_lt;have hc:=c.toNat_lt;have hd:=d.toNat_lt;simp only [bT,bq,hb1,hb2,hb3,Nat.reduceAdd,Nat.add_one_sub_one,Bool.true_and,Bool.and_eq_true,decide_eq_true_eq] at h2 h3 h4 ⊢;have h6:=qai h4;have en:enc ((((a.toNat:Int) % 8*64+(b.toNat:Int) % 64)*64+(c.toNat:Int) % 64)*64+(d.toNat:Int) % 64)=[a,b,c,d]:=by
          rw [enc,qd1 h4 (by omega)];simp only [List.map_cons,List.map_nil];rw [qa7 _ a (by omega),qa7 _ b (by omega),qa7 _ c (by omega),qa7 _ d (by omega)]
         exact .inr (by simp [h4,en])
      ·exact .inl (by unfold ao;rw [if_neg (by simp),hb0,if_neg (by omega),if_neg (by omega),if_neg (by omega),if_neg (by omega),if_neg (by omega)])
theorem qat (l:List UInt8):(ao l=(0,0))∨(aH (ao l).1=true∧1≤(ao l).2∧(ao l).2≤4∧(ao l).2≤l.length):=by
 rcases cE l with h | ⟨h1,h2,h3⟩
 ·exact .inl h
 ·refine .inr ⟨h1,?_,?_,?_⟩
  ·rcases Nat.eq_zero_or_pos (enc (ao l).1).length with h0 | h0
   ·have:=List.eq_nil_of_length_eq_zero h0;rw [enc,List.map_eq_nil_iff] at this;unfold cn at this;rw [h1,if_neg (by decide)] at this;split at this
    ·cases this
    ·split at this
     ·cases this
     ·split at this <;> cases this
   ·omega
  ·have:=qcq (ao l).1;omega
  ·have:=congrArg List.length h3;simp at this;omega
theorem qks {l:List UInt8} (h:(ao l).2≠0):aH (ao l).1=true:=by
 rcases qat l with h1 | h1
 ·rw [h1] at h;simp at h
 ·exact h1.1
def qcn:Nat→List UInt8→List Int×Nat
 | 0,_=>([],0)
 | f+1,l=>if (ao l).2=0 then ([],0) else ((ao l).1::(qcn f (l.drop (ao l).2.toNat)).1,(ao l).2.toNat+(qcn f (l.drop (ao l).2.toNat)).2)
def bU (l:List UInt8):List Int×Nat:=qcn l.length l
theorem qbs (f:Nat):qcn f []=([],0):=by cases f <;> rfl
theorem qhg:∀ (f g:Nat) (l:List UInt8),l.length≤f→l.length≤g→qcn f l=qcn g l:=by
 intro f;induction f with
 | zero=>
  intro g l h _;rw [List.eq_nil_of_length_eq_zero (show l.length=0 by omega),qbs,qbs]
 | succ f ih=>
  intro g l hf hg;cases g with
  | zero=>rw [List.eq_nil_of_length_eq_zero (show l.length=0 by omega),qbs,qbs]
  | succ g=>
   rcases qat l with h1 | ⟨_,h1,_,h2⟩
   ·simp [qcn,h1]
   ·simp only [qcn];rw [ih g (l.drop (ao l).2.toNat) (by simp;omega) (by simp;omega)]
theorem qdn {l:List UInt8} (h:(ao l).2=0):bU l=([],0):=by
 unfold bU;cases l with
 | nil=>rfl
 | cons a l=>simp [qcn,h]
theorem qea {l:List UInt8} (h:(ao l).2≠0):bU l=((ao l).1::(bU (l.drop (ao l).2.toNat)).1,(ao l).2.toNat+(bU (l.drop (ao l).2.toNat)).2):=by
 rcases qat l with h1 | ⟨_,h1,_,h2⟩
 ·rw [h1] at h;simp at h
 ·obtain ⟨k,hk⟩:∃ k,l.length=k+1:=⟨l.length-1,by omega⟩
  unfold bU;rw [hk,qcn,if_neg h,qhg k _ _ (by simp;omega) (Nat.le_refl _)]
def bE (l:List Int):List UInt8:=(l.map enc).flatten
theorem qb1 (p:Int) (l:List Int):bE (p::l)=enc p++bE l:=by simp [bE]
theorem cM (a b:List Int):bE (a++b)=bE a++bE b:=by simp [bE]
theorem qkj {p:Int} (h:aH p=true):1≤(enc p).length:=by
 have:=qat (enc p++[]);rw [qeZ p h []] at this;rcases this with h1 | h1
 ·have:=congrArg Prod.snd h1;have h2:=congrArg Prod.fst h1;simp at this h2;subst h2;have:enc 0=[]:=this;exact absurd this (by decide)
 ·have:=h1.2.1;simp at this;omega
theorem qes {P:List UInt8→Prop} (h:∀ l,(∀ k,1≤k→k≤l.length→P (l.drop k))→P l):∀ l,P l:=by
 have:∀ n,∀ l:List UInt8,l.length≤n→P l:=by
  intro n;induction n with
  | zero=>intro l hl;exact h l fun k h1 h2=>by omega
  | succ n ih=>intro l hl;exact h l fun k h1 h2=>ih _ (by simp;omega)
 exact fun l=>this _ l (Nat.le_refl _)
theorem qgJ (l:List UInt8):(bU l).2≤l.length:=by
 induction l using qes with
 | h l ih=>
  by_cases h:(ao l).2=0
  ·rw [qdn h];simp
  ·rcases qat l with h1 | ⟨_,h1,_,h2⟩
   ·rw [h1] at h;simp at h
   ·have:=ih (ao l).2.toNat (by omega) (by omega);rw [qea h];simp at this ⊢;omega
theorem qhc (ps:List Int) (h:∀ p∈ps,aH p=true) (r:List UInt8):bU (bE ps++r)=(ps++(bU r).1,(bE ps).length+(bU r).2):=by
 induction ps with
 | nil=>simp [bE]
 | cons p ps ih=>
  have hp:=h p (by simp);have h1:=qeZ p hp (bE ps++r);have h2:=qkj hp;have h3:=ih fun q hq=>h q (by simp [hq]);rw [qb1,List.append_assoc];have hn:(ao (enc p++(bE ps++r))).2≠0:=by rw [h1];simp;intro h0;rw [h0] at h2;simp at h2
  rw [qea hn,h1];simp [h3];omega
