/- Merged: UtfA ChPl ScPl RePl RePl2 RePl5 ReWr EmPl. -/
import Derived.Test.YtnecfkhbncepnaaGreatDoorTt4
import Derived.Deep.QuietTactic
import Derived.BigQuiet
import Derived.WalkLawsBesides
import Derived.WalkSpells
import Derived.Lib.AppendStr
set_option maxRecDepth 100000
set_option maxHeartbeats 1000000
namespace Go.Proofs.YtnecfkhbncepnaaGreatDoor
namespace Utf
open Go.RowKit
theorem bV (n:Int) (w:World):Calls Tryz.prog 217 #[.int .i32 n] w fun e w'=>e = .returned (.bool (bc n))∧w=w':=by
 go_enter Tryz.func217,Tryz.ntmps217;go_wp2
 all_goals
  go_ret;exact ⟨aW (by rw [Bool.eq_iff_iff];simp [bc];omega),rfl⟩
theorem qdF (n:Int) (w:World) (h0:0≤n) (h1:n≤2147483647):Calls Tryz.prog 220 #[.int .i32 n] w fun e w'=>e = .returned (.int .u8 (128+n % 64))∧w=w':=by
 have e1:=qsK n h0 h1;have e2:bits BinOp.or IntKind.u8 128 (n % 64)=128+n % 64:=u8_or128 _ (by omega) (by omega);have e3:n % 64 % 256=n % 64:=by omega
 go_enter Tryz.func220,Tryz.ntmps220;go_wp2;go_ret;exact ⟨rfl,rfl⟩
theorem qiX (s:ByteArray) (bs:Int) (n:Nat) (least:Int) (w:World) (hs:s.size≤maxLen) (hb0:0≤bs) (hb1:bs≤31) (hn0:2≤n) (hn1:n≤4) :
  Calls Tryz.prog 207 #[.string s,.int .i32 bs,.int .i64 n,.int .i32 least] w fun e w'=>
   e = .returned (.tuple #[.int .i32 (dx s.data.toList bs n least).1,.int .i64 (dx s.data.toList bs n least).2])∧w=w':=by
 unfold maxLen at hs;by_cases hl:s.size<n
 ·have hd:decide (s.size<n)=true:=by simpa using hl
  go_enter Tryz.func207,Tryz.ntmps207;go_wp2;go_ret2
  exact ⟨by rw [qjO _ _ _ _ (by rw [ac];exact hl)];rfl,rfl⟩
 ·have hd:decide (s.size<n)=false:=by simpa using hl
  go_enter Tryz.func207,Tryz.ntmps207;go_wp2;go_loop [1,10] (fun b i=>∃ k:Nat,k<n∧i = .int .i64 (k+1:Nat)∧b = .int .i32 (ck bs s.data.toList k)∧de s.data.toList k=true) (fun _ i=>n-(intOf i).toNat)
  case atStart=>exact ⟨0,by omega,by go_num,rfl,rfl⟩
  case round=>
   obtain ⟨k,hk,rfl,rfl,hcont⟩:=hrel;have HC:=zh hcont;clear hcont;have a0:=qqU bs s.data.toList hb0 k;have a1:=qqP bs s.data.toList hb1 k (by omega);by_cases hlt:k+1<n
   ·have hd1:decide (k+1<n)=true:=by simpa using hlt
    have hlt2:k+1<s.size:=by omega
    have g:=be s (k+1) hlt2;have G:=zh g;have g0:=eB s.data.toList (k+1);have g1:=qcM s.data.toList (k+1);have t1:=qld _ g0 g1;have t2:bits .and .u8 (byt s.data.toList (k+1)) 63=byt s.data.toList (k+1) % 64:=u8_and63 _ g0 (by omega);rw [g] at t1 t2 g0 g1;clear g;by_cases hc:(s[k+1].toNat:Int) / 64=2
    ·have t3:decide ((s[k+1].toNat:Int) / 64=2)=true:=by simpa using hc
     have H3:=zh hc;clear hc;go_wp2;go_round
     case rel=>exact ⟨k+1,hlt,by go_num,by rw [ck,G.out],by rw [de,HC.out,G.out,t3];rfl⟩
     case measure=>simp [intOf];omega
    ·have t3:decide ((s[k+1].toNat:Int) / 64=2)=false:=by simpa using hc
     have H3:=zh hc;clear hc;go_wp2;go_ret2
     exact ⟨by rw [qlF _ _ _ _ (by rw [ac];exact hl) (k+1) (by omega) (by rw [de,G.out,t3];simp)];rfl,rfl⟩
   ·have hd1:decide (k+1<n)=false:=by simpa using hlt
    obtain rfl:n=k+1:=by omega
    by_cases h1:ck bs s.data.toList k<least
    ·have h1d:decide (ck bs s.data.toList k<least)=true:=by simpa using h1
     go_wp2_with (go_at_call 217;refine (bV _ _).mono ?_;rintro e w' ⟨rfl,rfl⟩)
     go_ret2
     exact ⟨by rw [qhc _ _ _ _ (.inl h1)];rfl,rfl⟩
    ·have h1d:decide (ck bs s.data.toList k<least)=false:=by simpa using h1
     by_cases h2:bc (ck bs s.data.toList k)=true
     ·go_wp2_with (go_at_call 217;refine (bV _ _).mono ?_;rintro e w' ⟨rfl,rfl⟩)
      go_ret2
      exact ⟨by rw [qp3 _ _ _ _ (by rw [ac];exact hl) HC.out (by omega) h2];rfl,rfl⟩
     ·have h2':bc (ck bs s.data.toList k)=false:=by simpa using h2
      clear h2;go_wp2_with (go_at_call 217;refine (bV _ _).mono ?_;rintro e w' ⟨rfl,rfl⟩)
      go_ret2
      exact ⟨by rw [qhc _ _ _ _ (.inr h2')];rfl,rfl⟩
theorem qjA (s:ByteArray) (bs n least:Int) (w:World) (hs:s.size≤maxLen) (hb0:0≤bs) (hb1:bs≤31) (hn0:2≤n) (hn1:n≤4) :
  Calls Tryz.prog 207 #[.string s,.int .i32 bs,.int .i64 n,.int .i32 least] w fun e w'=>
   e = .returned (.tuple #[.int .i32 (dx s.data.toList bs n.toNat least).1,.int .i64 (dx s.data.toList bs n.toNat least).2])∧w=w':=by
 obtain ⟨k,rfl⟩:=Int.eq_ofNat_of_zero_le (show 0≤n by omega);exact qiX s bs k least w hs hb0 hb1 (by omega) (by omega)
theorem qki (s:ByteArray) (p:Int) (w:World) (hs:s.size≤maxLen) :
  Calls Tryz.prog 185 #[.string s,.int .i64 p] w fun e w'=>
   e = .returned (.tuple #[.int .i32 (qk5 s.data.toList p).1,.int .i64 (qk5 s.data.toList p).2])∧w=w':=by
 have hs':=hs;unfold maxLen at hs;by_cases h0:p<0
 ·have hd:decide (p<0)=true:=by simpa using h0
  go_enter Tryz.func185,Tryz.ntmps185;go_wp2;go_ret2
  exact ⟨by rw [qhA _ _ (.inl h0)];rfl,rfl⟩
 ·obtain ⟨q,rfl⟩:=Int.eq_ofNat_of_zero_le (Int.not_lt.mp h0);by_cases h1:q<s.size
  ·have g:=be s q h1;have G:=zh g;have g0:=eB s.data.toList q;have g1:=qcM s.data.toList q;have t1:bits .and .u8 (byt s.data.toList q) 31=byt s.data.toList q % 32:=u8_and31 _ g0 (by omega);have t2:bits .and .u8 (byt s.data.toList q) 15=byt s.data.toList q % 16:=u8_and15 _ g0 (by omega);have t3:bits .and .u8 (byt s.data.toList q) 7=byt s.data.toList q % 8:=u8_and7 _ g0 (by omega);rw [g] at t1 t2 t3 g0 g1;clear g;have e0:=qgf s q h1;have hx:(s.data.toList.drop q).take (s.size-q)=s.data.toList.drop q:=List.take_of_length_le (by simp);have hxs:(s.extract q s.size).size≤maxLen:=by simp;omega
   have HXS:=zh hxs;clear hxs;have E0:=zh e0;clear e0;have HX:=zh hx;clear hx;go_enter Tryz.func185,Tryz.ntmps185;go_wp2_with (go_at_call 207;refine (qjA _ _ _ _ _ HXS.out (by omega) (by omega) (by omega) (by omega)).mono ?_;rintro e w' ⟨rfl,rfl⟩)
   all_goals go_ret2
   ·exact ⟨by rw [E0.out,qsJ _ _ _ h1 G.out (by omega)];rfl,rfl⟩
   ·exact ⟨by rw [E0.out,qtl _ _ _ h1 G.out (by omega) (by omega)];rfl,rfl⟩
   ·exact ⟨by rw [E0.out,HX.out,qsv _ _ _ h1 G.out (by omega) (by omega)];rfl,rfl⟩
   ·exact ⟨by rw [E0.out,HX.out,qsj _ _ _ h1 G.out (by omega) (by omega)];rfl,rfl⟩
   ·exact ⟨by rw [E0.out,HX.out,qtd _ _ _ h1 G.out (by omega) (by omega)];rfl,rfl⟩
   ·exact ⟨by rw [E0.out,qrI _ _ _ h1 G.out (by omega)];rfl,rfl⟩
  ·have hd:decide (q<s.size)=false:=by simpa using h1
   go_enter Tryz.func185,Tryz.ntmps185;go_wp2;go_ret2
   exact ⟨by rw [qhA _ _ (.inr (by rw [ac];omega))];rfl,rfl⟩
theorem cq (v:Value) (xs:List Value) (n:Int) (B:Nat) (w:World) (hown:w.ownsRow B 5 1 v xs.length xs) (hB:B≤w.heap.size) (hr:xs.length+4≤140737488355328) :
  Calls Tryz.prog 210 #[v,.int .i32 n] w (cR 5 B (xs++Lib.byteCells (enc n)) w):=by
 obtain ⟨i0,hi,hz0,hz1,hz2⟩:=info_parts dn;by_cases hp:bc n=true
 ·have h0:=qaW hp;have h1:=qab hp;have HP:=zh hp;by_cases c1:n<128
  ·have e1:n % 256=n:=by omega
   rw [dr,qbw HP.out c1];go_enter Tryz.func210,Tryz.ntmps210;go_wp2_with (first | (go_at_call 217;refine (bV _ _).mono ?_;rintro e w' ⟨rfl,rfl⟩) | (go_at_call 220;refine (qdF _ _ (by omega) (by omega)).mono ?_;rintro e w' ⟨rfl,rfl⟩) | (at_builtin;refine wpList_append_own _ rfl _ _ 94 rfl B 5 i0 (.int .u8 0) 1 1 Tryz.underlying94 hi hz0 hz1 hz2 rfl (by decide) v xs.length xs rfl (hown.alloc _) ⟨w.heap.size,0,none⟩ 1 1 [.int .u8 n] rfl rfl (bM _ _ _) ?_ ?_ ?_ ?_ ?_;(intro u hu;simp at hu;rcases hu with rfl <;> rfl);(unfold maxLen;omega);omega;(simp;omega);intro v1 w1 hown1 hg1 _))
   go_ret;exact ⟨v1,rfl,by rw [List.length_append];exact hown1,((Below.refl B w).alloc hB _).grown hg1 (by simp;omega) (fun k hk=>(hown.lt k hk).1)⟩
  ·by_cases c2:n<2048
   ·have e1:n / 64 % 256=n / 64:=by omega
    have e2:bits BinOp.or IntKind.u8 192 (n / 64)=192+n / 64:=u8_or192 _ (by omega) (by omega);rw [dr,qgl HP.out (by omega) c2];go_enter Tryz.func210,Tryz.ntmps210;go_wp2_with (first | (go_at_call 217;refine (bV _ _).mono ?_;rintro e w' ⟨rfl,rfl⟩) | (go_at_call 220;refine (qdF _ _ (by omega) (by omega)).mono ?_;rintro e w' ⟨rfl,rfl⟩) | (at_builtin;refine wpList_append_own _ rfl _ _ 94 rfl B 5 i0 (.int .u8 0) 1 1 Tryz.underlying94 hi hz0 hz1 hz2 rfl (by decide) v xs.length xs rfl (hown.alloc _) ⟨w.heap.size,0,none⟩ 2 2 [.int .u8 (192+n / 64),.int .u8 (128+n % 64)] rfl rfl (bM _ _ _) ?_ ?_ ?_ ?_ ?_;(intro u hu;simp at hu;rcases hu with rfl | rfl <;> rfl);(unfold maxLen;omega);omega;(simp;omega);intro v1 w1 hown1 hg1 _))
    go_ret;exact ⟨v1,rfl,by rw [List.length_append];exact hown1,((Below.refl B w).alloc hB _).grown hg1 (by simp;omega) (fun k hk=>(hown.lt k hk).1)⟩
   ·by_cases c3:n<65536
    ·have e1:n / 4096 % 256=n / 4096:=by omega
     have e2:bits BinOp.or IntKind.u8 224 (n / 4096)=224+n / 4096:=u8_or224 _ (by omega) (by omega);rw [dr,qgq HP.out (by omega) c3];go_enter Tryz.func210,Tryz.ntmps210;go_wp2_with (first | (go_at_call 217;refine (bV _ _).mono ?_;rintro e w' ⟨rfl,rfl⟩) | (go_at_call 220;refine (qdF _ _ (by omega) (by omega)).mono ?_;rintro e w' ⟨rfl,rfl⟩) | (at_builtin;refine wpList_append_own _ rfl _ _ 94 rfl B 5 i0 (.int .u8 0) 1 1 Tryz.underlying94 hi hz0 hz1 hz2 rfl (by decide) v xs.length xs rfl (hown.alloc _) ⟨w.heap.size,0,none⟩ 3 3 [.int .u8 (224+n / 4096),.int .u8 (128+n / 64 % 64),.int .u8 (128+n % 64)] rfl rfl (bM _ _ _) ?_ ?_ ?_ ?_ ?_;(intro u hu;simp at hu;rcases hu with rfl | rfl | rfl <;> rfl);(unfold maxLen;omega);omega;(simp;omega);intro v1 w1 hown1 hg1 _))
     go_ret;exact ⟨v1,rfl,by rw [List.length_append];exact hown1,((Below.refl B w).alloc hB _).grown hg1 (by simp;omega) (fun k hk=>(hown.lt k hk).1)⟩
    ·have e1:n / 262144 % 256=n / 262144:=by omega
     have e2:bits BinOp.or IntKind.u8 240 (n / 262144)=240+n / 262144:=u8_or240 _ (by omega) (by omega);rw [dr,qgI HP.out (by omega)];go_enter Tryz.func210,Tryz.ntmps210;go_wp2_with (first | (go_at_call 217;refine (bV _ _).mono ?_;rintro e w' ⟨rfl,rfl⟩) | (go_at_call 220;refine (qdF _ _ (by omega) (by omega)).mono ?_;rintro e w' ⟨rfl,rfl⟩) | (at_builtin;refine wpList_append_own _ rfl _ _ 94 rfl B 5 i0 (.int .u8 0) 1 1 Tryz.underlying94 hi hz0 hz1 hz2 rfl (by decide) v xs.length xs rfl (hown.alloc _) ⟨w.heap.size,0,none⟩ 4 4 [.int .u8 (240+n / 262144),.int .u8 (128+n / 4096 % 64),.int .u8 (128+n / 64 % 64),.int .u8 (128+n % 64)] rfl rfl (bM _ _ _) ?_ ?_ ?_ ?_ ?_;(intro u hu;simp at hu;rcases hu with rfl | rfl | rfl | rfl <;> rfl);(unfold maxLen;omega);omega;(simp;omega);intro v1 w1 hown1 hg1 _))
     go_ret;exact ⟨v1,rfl,by rw [List.length_append];exact hown1,((Below.refl B w).alloc hB _).grown hg1 (by simp;omega) (fun k hk=>(hown.lt k hk).1)⟩
 ·have hp':bc n=false:=by simpa using hp
  clear hp;go_enter Tryz.func210,Tryz.ntmps210;go_wp2_with (go_at_call 217;refine (bV _ _).mono ?_;rintro e w' ⟨rfl,rfl⟩)
  go_ret;rw [qsC hp'];exact ⟨v,rfl,by simpa [Lib.byteCells] using hown,Below.refl _ _⟩
theorem qdx (n:Int) (w:World):Calls Tryz.prog 191 #[.int .i32 n] w (qbk (.string (aa (enc n))) w):=by
 go_enter Tryz.func191,Tryz.ntmps191;go_wp2_with fail;refine (cq _ [] n w.heap.size w (World.ownsRow_nil _ _ _ _) (Nat.le_refl _) (by decide)).mono ?_;rintro e w1 ⟨v1,rfl,hown1,hb1⟩;rw [List.nil_append] at hown1;have hc:=(Rd.of_own hown1).conv (P:=Tryz.prog) Tryz.underlying94 Tryz.underlying5 Tryz.underlying9
 go_wp2;go_ret;exact ⟨rfl,hb1⟩
theorem qpe (s:ByteArray) (k:Nat) (p n:Int) (w:World) (hs:s.size≤maxLen) (hk:k<s.size) (h:Hid (az (s.data.toList.drop k)=(p,n))) :
  Calls Tryz.prog 185 #[.string s,.int .i64 k] w fun e w'=>e = .returned (.tuple #[.int .i32 p,.int .i64 n])∧w=w':=by
 have:=qki s k w hs;rw [qgf s k hk,h.out] at this;exact this
theorem qjm {l:List UInt8} {p n:Int} (h:az l=(p,n)):0≤p∧p≤1114111∧0≤n∧n≤4∧n≤l.length:=by
 rcases qas l with h1 | ⟨h1,h2,h3,h4⟩
 ·rw [h] at h1;have a:=congrArg Prod.fst h1;have b:=congrArg Prod.snd h1;simp at a b;omega
 ·rw [h] at h1 h2 h3 h4;have a:=qaW h1;have b:=qab h1;simp at a b h2 h3 h4;omega
theorem qkI (s:ByteArray) (w:World) (hs:s.size≤maxLen):Calls Tryz.prog 161 #[.string s] w fun e w'=>e = .returned (.int .i64 (dj s.data.toList).2)∧w=w':=by
 have hs':=hs;have HS:=zh hs;clear hs;unfold maxLen at hs';go_enter Tryz.func161,Tryz.ntmps161;go_wp2;go_loop [3,4,5] (fun a _ _=>∃ k:Nat,k≤s.size∧a = .int .i64 k∧(dj s.data.toList).2=k+(dj (s.data.toList.drop k)).2) (fun a _ _=>s.size-(intOf a).toNat)
 case atStart=>exact ⟨0,by omega,rfl,by simp⟩
 case round=>
  obtain ⟨k,hk,rfl,he⟩:=hrel;have HE:=zh he;clear he;by_cases hlt:k<s.size
  ·rcases hO:az (s.data.toList.drop k) with ⟨p,n⟩;obtain ⟨b1,b2,b3,b4,b5⟩:=qjm hO;rw [List.length_drop,ac] at b5;have HO:=zh hO;clear hO;by_cases hn:n=0
   ·subst hn;go_wp2_with (go_at_call 185;refine (qpe _ _ _ _ _ HS.out hlt HO).mono ?_;rintro e w' ⟨rfl,rfl⟩)
    go_ret;exact ⟨by rw [HE.out,qfv (by rw [HO.out])];rfl,rfl⟩
   ·have hnb:(n==0)=false:=by simpa using hn
    obtain ⟨m,rfl⟩:=Int.eq_ofNat_of_zero_le b3;have hne:Hid (¬((m:Int)=0)):=hn;clear hn;go_wp2_with (go_at_call 185;refine (qpe _ _ _ _ _ HS.out hlt HO).mono ?_;rintro e w' ⟨rfl,rfl⟩)
    go_round
    case rel=>exact ⟨k+m,by omega,by go_num,by rw [HE.out,qgV (by rw [HO.out];exact hne.out),HO.out,List.drop_drop];simp;omega⟩
    case measure=>have:=hne.out;simp [intOf];omega
  ·have hd:decide (k<s.size)=false:=by simpa using hlt
   obtain rfl:k=s.size:=by omega
   go_wp2;go_ret;exact ⟨by rw [HE.out,List.drop_of_length_le (by rw [ac];exact Nat.le_refl _)];rfl,rfl⟩
end Utf
namespace Ch
open Go.RowKit Utf
def qcs (c:Int):Int:=if 48≤c∧c≤57 then c-48 else if 65≤c∧c≤70 then c-55 else if 97≤c∧c≤102 then c-87 else -1
theorem qp9 (c:Int) : -1≤qcs c:=by unfold qcs;(repeat' split) <;> omega
theorem qj5 (c:Int):qcs c≤15:=by unfold qcs;(repeat' split) <;> omega
def qc0 (l:List UInt8):Nat→Int
 | 0=>0
 | k+1=>qc0 l k*16+qcs (byt l (k+2))
def dY (l:List UInt8):Nat→Bool
 | 0=>true
 | k+1=>dY l k&&decide (0≤qcs (byt l (k+2)))
theorem qlG {l:List UInt8} {k:Nat} (h:dY l (k+1)=true):dY l k=true∧0≤qcs (byt l (k+2)):=by
 simpa [dY] using h
theorem qjl (l:List UInt8):∀ k,dY l k=true→0≤qc0 l k∧qc0 l k<16 ^ k:=by
 intro k;induction k with
 | zero=>intro _;simp [qc0]
 | succ k ih=>
  intro h;obtain ⟨h1,h2⟩:=qlG h;have:=ih h1;have h3:=qj5 (byt l (k+2));simp only [qc0,Int.pow_succ];omega
theorem qiV (l:List UInt8) (k:Nat) (h:dY l k=false):∀ n,k≤n→dY l n=false:=by
 intro n hn;induction n with
 | zero=>
  have:k=0:=by omega
  subst this;exact h
 | succ n ih=>
  by_cases e:k=n+1
  ·subst e;exact h
  ·simp [dY,ih (by omega)]
def au (l:List UInt8):Int:=if 6≤l.length∧byt l 0=92∧byt l 1=117∧dY l 4=true then qc0 l 4 else -1
theorem dq {l:List UInt8} (h:0≤au l):6≤l.length∧byt l 0=92∧byt l 1=117∧dY l 4=true∧au l=qc0 l 4:=by
 unfold au at h ⊢;split at h
 ·rename_i h1
  rw [if_pos h1];exact ⟨h1.1,h1.2.1,h1.2.2.1,h1.2.2.2,rfl⟩
 ·omega
theorem qnv {l:List UInt8} (h0:6≤l.length) (h1:byt l 0=92) (h2:byt l 1=117) (h3:dY l 4=true):au l=qc0 l 4:=by
 rw [au,if_pos ⟨h0,h1,h2,h3⟩]
theorem qaO {l:List UInt8} (h:¬(6≤l.length∧byt l 0=92∧byt l 1=117∧dY l 4=true)):au l = -1:=by
 rw [au,if_neg h]
theorem qei (l:List UInt8) : -1≤au l∧au l≤65535:=by
 by_cases h:0≤au l
 ·obtain ⟨_,_,_,h4,h5⟩:=dq h;have:=qjl l 4 h4;omega
 ·unfold au;split
  ·rename_i h1
   have:=qjl l 4 h1.2.2.2;omega
  ·omega
def cy (c:Int):Int:=if c=34 then 34 else if c=92 then 92 else if c=47 then 47 else if c=98 then 8 else if c=102 then 12 else if c=110 then 10 else if c=114 then 13 else if c=116 then 9 else -1
theorem qgz (c:Int):cy c≤92:=by unfold cy;(repeat' split) <;> omega
theorem qh9 (c:Int) (h:0≤cy c):(cy c=34∨cy c=92∨cy c=47∨cy c=8∨cy c=12∨cy c=10∨cy c=13∨cy c=9)∧c≠117:=by
 unfold cy at h ⊢;(repeat' split at h) <;> simp_all
def dA (u:Int):Bool:=decide (55296≤u∧u<56320)
def cN (u:Int):Bool:=decide (56320≤u∧u<57344)
theorem qa7 {u:Int} (h:dA u=true):55296≤u∧u<56320:=by simpa [dA] using h
theorem qa9 {u:Int} (h:cN u=true):56320≤u∧u<57344:=by simpa [cN] using h
theorem qqT (u:Int) (h0:0≤u) (h1:u≤65535) (hu:dA u=false) (hl:cN u=false):bc u=true:=by
 simp [dA,cN,bc] at *;omega
theorem qf6 {u:Int} (h:dA u=true):bc u=false:=by have:=qa7 h;simp [bc];omega
theorem qhm {u:Int} (h:cN u=true):bc u=false:=by have:=qa9 h;simp [bc];omega
def eg (u b:Int):Int:=65536+(u-55296)*1024+(b-56320)
theorem qhQ {u b:Int} (hu:dA u=true) (hb:cN b=true):65536≤eg u b∧eg u b≤1114111:=by
 have:=qa7 hu;have:=qa9 hb;unfold eg;omega
def qar (l:List UInt8):Int×Int×Int:=
 if l.length<2 then (0,0,20) else if 0≤cy (byt l 1) then (cy (byt l 1),2,0) else if 0≤au l then (au l,6,0) else (0,0,20)
def bw (l:List UInt8):Int×Int×Int:=
 if (az l).2=0 then (0,0,10) else if (az l).1<32 then (0,0,20) else if (az l).1=92 then qar l else ((az l).1,(az l).2,0)
def dv (l:List UInt8):Int×Int:=
 if 2≤l.length∧0≤cy (byt l 1) then (cy (byt l 1),2)
 else if au l<0 then (0,0)
 else if bc (au l)=true then (au l,6)
 else if dA (au l)=true∧cN (au (l.drop 6))=true then (eg (au l) (au (l.drop 6)),12)
 else (0,0)
def aB (l:List UInt8):Int×Int×Int:=
 if l.length=0 then (0,0,20) else if byt l 0=34 then (0,0,0) else if byt l 0<32 then (0,0,20)
 else if byt l 0=92 then (if (dv l).2=0 then (0,0,20) else ((dv l).1,(dv l).2,0))
 else if (az l).2=0 then (0,0,10) else ((az l).1,(az l).2,0)
theorem qam {l:List UInt8} (h0:l.length≠0) (h:byt l 0<128):az l=(byt l 0,1):=by
 unfold az;rw [if_neg h0,if_pos h]
theorem qeM {l:List UInt8} (h:128≤byt l 0) (hn:(az l).2≠0):128≤(az l).1:=by
 rcases dV l with h1 | ⟨h1,h2,h3⟩
 ·rw [h1] at hn;simp at hn
 ·rcases Int.lt_or_le (az l).1 128 with h4 | h4
  ·have e:=cQ (az l).1 (l.drop (enc (az l).1).length) 0 (az l).1 (by rw [qbw h1 h4];rfl);rw [h3] at e;omega
  ·exact h4
theorem qsw (l:List UInt8):dv l=(0,0)∨(bc (dv l).1=true∧1≤(dv l).2∧(dv l).2≤12∧(dv l).2≤l.length∧((enc (dv l).1).length:Int)≤(dv l).2):=by
 unfold dv;by_cases h1:2≤l.length∧0≤cy (byt l 1)
 ·rw [if_pos h1]
  right
  have h3:=qgz (byt l 1);have hp:bc (cy (byt l 1))=true:=by simp [bc];omega
  refine ⟨hp,by simp,by simp,by simp;omega,?_⟩;have:(enc (cy (byt l 1))).length=1:=by rw [qaX,qbw hp (by omega)];rfl
  simp [this]
 ·rw [if_neg h1];by_cases h2:au l<0
  ·rw [if_pos h2];exact .inl rfl
  ·rw [if_neg h2];obtain ⟨g1,_⟩:=dq (l:=l) (by omega);have gb:=qei l;by_cases h3:bc (au l)=true
   ·rw [if_pos h3]
    right
    refine ⟨h3,by simp,by simp,by simp;omega,?_⟩;have:=qen (au l);simp;omega
   ·rw [if_neg h3];by_cases h4:dA (au l)=true∧cN (au (l.drop 6))=true
    ·rw [if_pos h4]
     right
     have hb:=qhQ h4.1 h4.2;have hl:=qa9 h4.2;obtain ⟨g2,_⟩:=dq (l:=l.drop 6) (by omega);simp at g2;refine ⟨by simp [bc];omega,by simp,by simp,by simp;omega,?_⟩;have:=qen (eg (au l) (au (l.drop 6)));simp;omega
    ·rw [if_neg h4];exact .inl rfl
theorem qbd (l:List UInt8):((aB l).2.1=0∧(aB l).1=0)∨(bc (aB l).1=true∧1≤(aB l).2.1∧(aB l).2.1≤12∧(aB l).2.1≤l.length∧((enc (aB l).1).length:Int)≤(aB l).2.1∧(aB l).2.2=0):=by
 unfold aB;by_cases h0:l.length=0
 ·rw [if_pos h0];exact .inl ⟨rfl,rfl⟩
 ·rw [if_neg h0];by_cases h1:byt l 0=34
  ·rw [if_pos h1];exact .inl ⟨rfl,rfl⟩
  ·rw [if_neg h1];by_cases h2:byt l 0<32
   ·rw [if_pos h2];exact .inl ⟨rfl,rfl⟩
   ·rw [if_neg h2];by_cases h3:byt l 0=92
    ·rw [if_pos h3];rcases qsw l with h4 | ⟨a,b,c,d,e⟩
     ·rw [h4];exact .inl ⟨rfl,rfl⟩
     ·rw [if_neg (by omega)];exact .inr ⟨a,b,c,d,e,rfl⟩
    ·rw [if_neg h3];rcases qas l with h4 | ⟨a,b,c,d⟩
     ·rw [h4];exact .inl ⟨rfl,rfl⟩
     ·rw [if_neg (by omega)];refine .inr ⟨a,b,by simp only;omega,d,?_,rfl⟩;rcases dV l with h5 | ⟨_,h6,_⟩
      ·rw [h5] at b;simp at b
      ·simp only;omega
def qbr:Nat→List UInt8→List Int×Nat×Int
 | 0,l=>([],0,(aB l).2.2)
 | f+1,l=>if (aB l).2.1=0 then ([],0,(aB l).2.2)
  else ((aB l).1::(qbr f (l.drop (aB l).2.1.toNat)).1,(aB l).2.1.toNat+(qbr f (l.drop (aB l).2.1.toNat)).2.1,(qbr f (l.drop (aB l).2.1.toNat)).2.2)
def aN (l:List UInt8):List Int×Nat×Int:=qbr l.length l
theorem qbc (f:Nat):qbr f []=([],0,20):=by cases f <;> rfl
theorem qjG:∀ (f g:Nat) (l:List UInt8),l.length≤f→l.length≤g→qbr f l=qbr g l:=by
 intro f;induction f with
 | zero=>
  intro g l h _;rw [List.eq_nil_of_length_eq_zero (show l.length=0 by omega),qbc,qbc]
 | succ f ih=>
  intro g l hf hg;cases g with
  | zero=>rw [List.eq_nil_of_length_eq_zero (show l.length=0 by omega),qbc,qbc]
  | succ g=>
   simp only [qbr];by_cases h:(aB l).2.1=0
   ·rw [if_pos h,if_pos h]
   ·rw [if_neg h,if_neg h];rcases qbd l with h1 | ⟨_,h1,_,h2,_⟩
    ·exact absurd h1.1 h
    ·rw [ih g (l.drop (aB l).2.1.toNat) (by simp;omega) (by simp;omega)]
theorem qbM {l:List UInt8} (h:(aB l).2.1=0):aN l=([],0,(aB l).2.2):=by
 unfold aN;cases l with
 | nil=>rfl
 | cons a l=>simp only [List.length_cons,qbr];rw [if_pos h]
theorem qeA {l:List UInt8} (h:(aB l).2.1≠0):aN l=((aB l).1::(aN (l.drop (aB l).2.1.toNat)).1,(aB l).2.1.toNat+(aN (l.drop (aB l).2.1.toNat)).2.1,(aN (l.drop (aB l).2.1.toNat)).2.2):=by
 rcases qbd l with h1 | ⟨_,h1,_,h2,_⟩
 ·exact absurd h1.1 h
 ·obtain ⟨k,hk⟩:∃ k,l.length=k+1:=⟨l.length-1,by omega⟩
  unfold aN;rw [hk,qbr,if_neg h,qjG k _ _ (by simp;omega) (Nat.le_refl _)]
theorem qka (l:List UInt8) (h:(aB l).2.1=0):(aB l).2.2=10∨(aB l).2.2=20∨((aB l).2.2=0∧l.length≠0∧byt l 0=34):=by
 unfold aB at h ⊢;by_cases h0:l.length=0
 ·rw [if_pos h0];exact .inr (.inl rfl)
 ·rw [if_neg h0] at h ⊢;by_cases h1:byt l 0=34
  ·rw [if_pos h1];exact .inr (.inr ⟨rfl,h0,h1⟩)
  ·rw [if_neg h1] at h ⊢;by_cases h2:byt l 0<32
   ·rw [if_pos h2];exact .inr (.inl rfl)
   ·rw [if_neg h2] at h ⊢;by_cases h3:byt l 0=92
    ·rw [if_pos h3] at h ⊢;by_cases h4:(dv l).2=0
     ·rw [if_pos h4];exact .inr (.inl rfl)
     ·rw [if_neg h4] at h;exact absurd h h4
    ·rw [if_neg h3] at h ⊢;by_cases h4:(az l).2=0
     ·rw [if_pos h4];exact .inl rfl
     ·rw [if_neg h4] at h;exact absurd h h4
theorem eh (l:List UInt8):(aN l).2.1≤l.length∧(cF (aN l).1).length≤(aN l).2.1∧(∀ p∈(aN l).1,bc p=true)∧
  ((aN l).2.2=10∨(aN l).2.2=20∨((aN l).2.2=0∧(aN l).2.1<l.length∧byt l (aN l).2.1=34)):=by
 induction l using qgx with
 | h l ih=>
  by_cases h:(aB l).2.1=0
  ·rw [qbM h];refine ⟨by simp,by simp [cF],by simp,?_⟩;rcases qka l h with h1 | h1 | ⟨h1,h2,h3⟩
   ·exact .inl h1
   ·exact .inr (.inl h1)
   ·exact .inr (.inr ⟨h1,by simp only;omega,h3⟩)
  ·rcases qbd l with h1 | ⟨h3,h1,h4,h2,h5,_⟩
   ·exact absurd h1.1 h
   ·have hi:=ih (aB l).2.1.toNat (by omega) (by omega);rw [qeA h];obtain ⟨a,b,c,d⟩:=hi;simp only [List.length_drop] at a;refine ⟨by simp only;omega,by rw [qcD];simp only [List.length_append];omega,?_,?_⟩
    ·intro p hp;simp at hp;rcases hp with rfl | hp
     ·exact h3
     ·exact c p hp
    ·rcases d with d | d | ⟨d1,d2,d3⟩
     ·exact .inl d
     ·exact .inr (.inl d)
     ·refine .inr (.inr ⟨d1,?_,?_⟩)
      ·simp only [List.length_drop] at d2;simp only;omega
      ·rw [ce] at d3;exact d3
theorem ql4 {l:List UInt8} (h:byt l 0≠92):au l = -1:=qaO fun x=>h x.2.1
theorem qlh {l:List UInt8} (h:l.length=0):au l = -1:=qaO fun x=>by omega
theorem qaF {l:List UInt8} (h:(az l).2=0):bw l=(0,0,10):=by unfold bw;rw [if_pos h]
theorem qaA {l:List UInt8} (h0:l.length≠0) (h:byt l 0<32):bw l=(0,0,20):=by
 have e:=qam h0 (by omega);unfold bw;rw [e,if_neg (by simp),if_pos h]
theorem qaL {l:List UInt8} (h0:l.length≠0) (h:byt l 0=92):bw l=qar l:=by
 have e:=qam h0 (by omega);unfold bw;rw [e,h];rfl
theorem qcv {l:List UInt8} (h0:l.length≠0) (h:(az l).2≠0) (h1:¬byt l 0<32) (h2:byt l 0≠92):bw l=((az l).1,(az l).2,0):=by
 unfold bw;rw [if_neg h];by_cases h3:byt l 0<128
 ·rw [qam h0 h3,if_neg h1,if_neg h2]
 ·have:=qeM (by omega) h;rw [if_neg (by omega),if_neg (by omega)]
theorem qms {l:List UInt8} (h0:l.length≠0) (h:byt l 0<32):aB l=(0,0,20):=by
 unfold aB;rw [if_neg h0,if_neg (by omega),if_pos h]
theorem eS {l:List UInt8} (h0:l.length≠0) (h:byt l 0=92):aB l=if (dv l).2=0 then (0,0,20) else ((dv l).1,(dv l).2,0):=by
 unfold aB;rw [if_neg h0,if_neg (by omega),if_neg (by omega),if_pos h]
theorem qhW {l:List UInt8} (h0:l.length≠0) (h1:¬byt l 0<32) (h2:byt l 0≠92) (h3:byt l 0≠34):aB l=if (az l).2=0 then (0,0,10) else ((az l).1,(az l).2,0):=by
 unfold aB;rw [if_neg h0,if_neg h3,if_neg h1,if_neg h2]
theorem qhM {l:List UInt8} (h0:l.length≠0) (h:byt l 0=34):aB l=(0,0,0):=by
 unfold aB;rw [if_neg h0,if_pos h]
theorem qlA {l:List UInt8} (h0:l.length=0):aB l=(0,0,20):=by
 unfold aB;rw [if_pos h0]
theorem qb5 {l:List UInt8} (h:2≤l.length) (hl:0≤cy (byt l 1)):qar l=(cy (byt l 1),2,0)∧dv l=(cy (byt l 1),2):=by
 constructor
 ·unfold qar;rw [if_neg (by omega),if_pos hl]
 ·unfold dv;rw [if_pos ⟨h,hl⟩]
theorem qky {l:List UInt8} (h:0≤au l):¬0≤cy (byt l 1):=by
 obtain ⟨_,_,h3,_⟩:=dq h;intro hc;exact (qh9 _ hc).2 h3
theorem qa2 {l:List UInt8} (h:0≤au l):qar l=(au l,6,0):=by
 obtain ⟨h1,_⟩:=dq h;unfold qar;rw [if_neg (by omega),if_neg (qky h),if_pos h]
theorem qcZ {l:List UInt8} (h:l.length<2∨¬0≤cy (byt l 1)) (hu:au l<0):qar l=(0,0,20)∧dv l=(0,0):=by
 constructor
 ·unfold qar;by_cases h1:l.length<2
  ·rw [if_pos h1]
  ·rw [if_neg h1,if_neg (by omega),if_neg (by omega)]
 ·unfold dv;rw [if_neg (by omega),if_pos hu]
theorem qbb {l:List UInt8} (h:0≤au l):dv l=if bc (au l)=true then (au l,6) else if dA (au l)=true∧cN (au (l.drop 6))=true then (eg (au l) (au (l.drop 6)),12) else (0,0):=by
 unfold dv;rw [if_neg (fun x=>qky h x.2),if_neg (by omega)]
theorem qkT (l:List UInt8):0≤(bw l).1∧(bw l).1≤1114111∧0≤(bw l).2.1∧(bw l).2.1≤6∧(bw l).2.1≤l.length∧((bw l).2.2=0∨(bw l).2.2=10∨(bw l).2.2=20):=by
 unfold bw;rcases qas l with h1 | ⟨a,b,c,d⟩
 ·rw [h1];simp
 ·have a0:=qaW a;have a1:=qab a;rw [if_neg (by omega)];by_cases h2:(az l).1<32
  ·rw [if_pos h2];simp
  ·rw [if_neg h2];by_cases h3:(az l).1=92
   ·rw [if_pos h3];unfold qar;by_cases h4:l.length<2
    ·rw [if_pos h4];simp
    ·rw [if_neg h4];by_cases h5:0≤cy (byt l 1)
     ·have:=qgz (byt l 1);rw [if_pos h5];exact ⟨by simp only;omega,by simp only;omega,by simp only;omega,by simp only;omega,by simp only;omega,.inl rfl⟩
     ·rw [if_neg h5];by_cases h6:0≤au l
      ·obtain ⟨g,_⟩:=dq h6;have:=qei l;rw [if_pos h6];exact ⟨by simp only;omega,by simp only;omega,by simp only;omega,by simp only;omega,by simp only;omega,.inl rfl⟩
      ·rw [if_neg h6];simp
   ·rw [if_neg h3];exact ⟨by simp only;omega,by simp only;omega,by simp only;omega,by simp only;omega,by simp only;omega,.inl rfl⟩
theorem qmV {l:List UInt8} (h0:l.length≠0) (hq:byt l 0≠34) (he:(bw l).2.2≠0):aB l=(0,0,(bw l).2.2):=by
 by_cases h1:byt l 0<32
 ·rw [qms h0 h1,qaA h0 h1]
 ·by_cases h2:byt l 0=92
  ·rw [qaL h0 h2] at he ⊢;rw [eS h0 h2];by_cases h3:2≤l.length∧0≤cy (byt l 1)
   ·rw [(qb5 h3.1 h3.2).1] at he;simp at he
   ·by_cases h4:0≤au l
    ·rw [qa2 h4] at he;simp at he
    ·have:=qcZ (l:=l) (by omega) (by omega);rw [this.1,this.2];rfl
  ·rw [qhW h0 h1 h2 hq];by_cases h3:(az l).2=0
   ·rw [qaF h3,if_pos h3]
   ·rw [qcv h0 h3 h1 h2] at he;simp at he
theorem qfR {l:List UInt8} (h0:l.length≠0) (hq:byt l 0≠34) (he:(bw l).2.2=0) (hu:dA (bw l).1=false) (hl:cN (bw l).1=false):aB l=bw l:=by
 by_cases h1:byt l 0<32
 ·rw [qaA h0 h1] at he;simp at he
 ·by_cases h2:byt l 0=92
  ·rw [qaL h0 h2] at he hu hl ⊢;rw [eS h0 h2];by_cases h3:2≤l.length∧0≤cy (byt l 1)
   ·have:=qb5 h3.1 h3.2;rw [this.1,this.2];rfl
   ·by_cases h4:0≤au l
    ·rw [qa2 h4] at hu hl ⊢;have gb:=qei l;rw [qbb h4,if_pos (qqT _ h4 gb.2 hu hl)];rfl
    ·have:=qcZ (l:=l) (by omega) (by omega);rw [this.1] at he;simp at he
  ·rw [qhW h0 h1 h2 hq];by_cases h3:(az l).2=0
   ·rw [qaF h3] at he;simp at he
   ·rw [qcv h0 h3 h1 h2,if_neg h3]
theorem dS {l:List UInt8} (h0:l.length≠0) (h:dA (bw l).1=true∨cN (bw l).1=true):byt l 0=92∧0≤au l∧bw l=(au l,6,0):=by
 have hp:bc (bw l).1=false:=by rcases h with h | h;exact qf6 h;exact qhm h
 have h92:∀ n:Int,0≤n→n≤92→bc n=true:=by intro n a b;simp [bc];omega
 by_cases h1:byt l 0<32
 ·rw [qaA h0 h1] at hp;simp [bc] at hp
 ·by_cases h2:byt l 0=92
  ·refine ⟨h2,?_⟩;rw [qaL h0 h2] at hp ⊢;by_cases h3:2≤l.length∧0≤cy (byt l 1)
   ·rw [(qb5 h3.1 h3.2).1,h92 _ h3.2 (qgz _)] at hp;simp at hp
   ·by_cases h4:0≤au l
    ·exact ⟨h4,qa2 h4⟩
    ·have:=qcZ (l:=l) (by omega) (by omega);rw [this.1] at hp;simp [bc] at hp
  ·by_cases h3:(az l).2=0
   ·rw [qaF h3] at hp;simp [bc] at hp
   ·rw [qcv h0 h3 h1 h2,qpr h3] at hp;simp at hp
theorem qpd {l:List UInt8} (h0:l.length≠0) (h:cN (bw l).1=true):aB l=(0,0,20):=by
 obtain ⟨a,b,c⟩:=dS h0 (.inr h);rw [c] at h;simp only at h;have hu:dA (au l)=false:=by have:=qa9 h;simp [dA];omega
 have e:dv l=(0,0):=by rw [qbb b,if_neg (by rw [qhm h];simp),if_neg (by rw [hu];simp)]
 rw [eS h0 a,e];rfl
theorem qhr {l:List UInt8} (h0:l.length≠0) (h:dA (bw l).1=true):aB l=if cN (au (l.drop 6))=true then (eg (bw l).1 (au (l.drop 6)),12,0) else (0,0,20):=by
 obtain ⟨a,b,c⟩:=dS h0 (.inl h);rw [c] at h ⊢;simp only at h ⊢;by_cases h2:cN (au (l.drop 6))=true
 ·have e:dv l=(eg (au l) (au (l.drop 6)),12):=by rw [qbb b,if_neg (by rw [qf6 h];simp),if_pos ⟨h,h2⟩]
  rw [eS h0 a,e,if_pos h2];rfl
 ·have e:dv l=(0,0):=by rw [qbb b,if_neg (by rw [qf6 h];simp),if_neg (fun x=>h2 x.2)]
  rw [eS h0 a,e,if_neg h2];rfl
theorem qgS {l:List UInt8} (h0:l.length≠0) (h:cN (au l)=true):byt l 0=92∧bw l=(au l,6,0):=by
 have hb:=qa9 h;obtain ⟨h1,h2,_⟩:=dq (l:=l) (by omega);exact ⟨h2,by rw [qaL h0 h2,qa2 (by omega)]⟩
def qcq (l:List UInt8) (k:Nat) (ps:List Int):Prop:=
 k≤l.length∧(cF ps).length≤k∧aN l=(ps++(aN (l.drop k)).1,k+(aN (l.drop k)).2.1,(aN (l.drop k)).2.2)
theorem qcq.start (l:List UInt8):qcq l 0 []:=⟨by omega,by simp [cF],by simp⟩
theorem qcq.step {l:List UInt8} {k:Nat} {ps:List Int} {p:Int} {m:Nat} (h:qcq l k ps) (hs:aB (l.drop k)=(p,(m:Int),0)) (hm:m≠0):qcq l (k+m) (ps++[p]):=by
 obtain ⟨h1,h2,h3⟩:=h;have hn:=qbd (l.drop k);rw [hs] at hn;simp only [List.length_drop] at hn;have hg:=qeA (l:=l.drop k) (by rw [hs];simpa using hm);rw [hs] at hg;simp only [Int.toNat_natCast,List.drop_drop] at hg;refine ⟨by omega,?_,?_⟩
 ·rw [ed];simp [cF] at h2 ⊢;omega
 ·rw [h3,hg];simp [Nat.add_assoc]
theorem qcq.stop {l:List UInt8} {k:Nat} {ps:List Int} (h:qcq l k ps) (hs:(aB (l.drop k)).2.1=0):aN l=(ps,k,(aB (l.drop k)).2.2):=by
 rw [h.2.2,qbM hs];simp
def bW (l:List UInt8) (a:Int):List UInt8×Int×Int:=
 if a<0∨(l.length:Int)≤a∨byt l a.toNat≠34 then ([],a,20)
 else if (aN (l.drop (a.toNat+1))).2.2=0 then (cF (aN (l.drop (a.toNat+1))).1,a+1+(aN (l.drop (a.toNat+1))).2.1+1,0)
 else ([],a+1+(aN (l.drop (a.toNat+1))).2.1,(aN (l.drop (a.toNat+1))).2.2)
theorem eX {l:List UInt8} {a:Int} (h:a<0∨(l.length:Int)≤a∨byt l a.toNat≠34):bW l a=([],a,20):=by rw [bW,if_pos h]
theorem qb2 {l:List UInt8} {q:Nat} (h:q<l.length) (hb:byt l q=34):bW l q=if (aN (l.drop (q+1))).2.2=0 then (cF (aN (l.drop (q+1))).1,(q:Int)+1+(aN (l.drop (q+1))).2.1+1,0)
 else ([],(q:Int)+1+(aN (l.drop (q+1))).2.1,(aN (l.drop (q+1))).2.2):=by
 rw [bW,if_neg (by rw [Int.toNat_natCast];omega),Int.toNat_natCast]
theorem qcq.err {l:List UInt8} {k:Nat} {ps:List Int} {e:Int} (h:qcq l k ps) (hs:aB (l.drop k)=(0,0,e)):aN l=(ps,k,e):=by
 have:=h.stop (by rw [hs]);rw [this,hs]
theorem qcq.le {l:List UInt8} {k:Nat} {ps:List Int} (h:qcq l k ps):k≤(aN l).2.1:=by
 rw [h.2.2];simp only;omega
theorem qlc {l:List UInt8} {q k:Nat} {ps:List Int} {e:Int} (h:q<l.length) (hb:byt l q=34) (hr:aN (l.drop (q+1))=(ps,k,e)) (he:e≠0):bW l q=([],(q:Int)+1+k,e):=by
 rw [qb2 h hb,hr,if_neg he]
theorem qpo {l:List UInt8} {q k:Nat} {ps:List Int} (h:q<l.length) (hb:byt l q=34) (hr:aN (l.drop (q+1))=(ps,k,0)):bW l q=(cF ps,(q:Int)+1+k+1,0):=by
 rw [qb2 h hb,hr,if_pos rfl]
theorem qnz {l:List UInt8} (h0:l.length≠0) (hq:byt l 0≠34) (he:(bw l).2.2=0):1≤(bw l).2.1:=by
 by_cases hu:dA (bw l).1=true
 ·rw [(dS h0 (.inl hu)).2.2];simp
 ·by_cases hl:cN (bw l).1=true
  ·rw [(dS h0 (.inr hl)).2.2];simp
  ·have e:=qfR h0 hq he (by simpa using hu) (by simpa using hl);have hn:=qbd l;have h2:=he;rw [←e] at he ⊢;rcases hn with h | h
   ·exfalso;have h3:=qka l h.1;rw [he] at h3;rcases h3 with h3 | h3 | h3
    ·simp at h3
    ·simp at h3
    ·exact hq h3.2.2
   ·exact h.2.1
theorem qnI {l:List UInt8} {p:Int} {m:Nat} (h:az l=(p,(m:Int))) (hm:m≠0):l.take m=enc p:=by
 rcases dV l with h1 | ⟨_,h2,h3⟩
 ·rw [h] at h1;have:=congrArg Prod.snd h1;simp at this;omega
 ·rw [h] at h2 h3;simp only at h2 h3;have e:m=(enc p).length:=by omega
  conv=>lhs;rw [←h3]
  rw [e,List.take_left'];rfl
theorem qnZ {l:List UInt8} {p:Int} {m:Nat} (h0:l.length≠0) (h2:byt l 0≠92) (h:bw l=(p,(m:Int),0)):az l=(p,(m:Int)):=by
 by_cases h1:byt l 0<32
 ·rw [qaA h0 h1] at h;have:=congrArg (fun x=>x.2.2) h;simp at this
 ·by_cases h3:(az l).2=0
  ·rw [qaF h3] at h;have:=congrArg (fun x=>x.2.2) h;simp at this
  ·rw [qcv h0 h3 h1 h2] at h;have a:=congrArg Prod.fst h;have b:=congrArg (fun x=>x.2.1) h;simp only at a b;rw [Prod.ext_iff];exact ⟨a,b⟩
theorem qnf {l:List UInt8} {u:Int} (h:bw l=(u,6,0)):l.length≠0:=by
 have:=qkT l;rw [h] at this;simp only at this;omega
theorem qdD {l:List UInt8} {j:Nat} {u:Int} (hup:dA u=true) (h:bw (l.drop j)=(u,6,0)) (hn:cN (au (l.drop (j+6)))=false):aB (l.drop j)=(0,0,20):=by
 rw [qhr (qnf h) (by rw [h];exact hup),List.drop_drop,if_neg (by rw [hn];simp)]
theorem qua {l:List UInt8} {j:Nat} {u:Int} (hup:dA u=true) (h:bw (l.drop j)=(u,6,0)) (hn:cN (au (l.drop (j+6)))=true):aB (l.drop j)=(eg u (au (l.drop (j+6))),12,0):=by
 rw [qhr (qnf h) (by rw [h];exact hup),List.drop_drop,if_pos hn,h]
theorem qfH {l:List UInt8} {p n e:Int} (h0:l.length≠0) (h:bw l=(p,n,e)) (hn:e≠0∨cN p=false):cN (au l)=false:=by
 cases hc:cN (au l) with
 | false=>rfl
 | true=>
  have:=(qgS h0 hc).2;rw [h] at this;have a:=congrArg Prod.fst this;have b:=congrArg (fun x=>x.2.2) this;simp only at a b;rcases hn with hn | hn
  ·exact absurd b hn
  ·rw [a,hc] at hn;simp at hn
theorem qjc {l:List UInt8} {p n:Int} (h0:l.length≠0) (h:bw l=(p,n,0)) (hn:cN p=true):au l=p∧n=6:=by
 have:=(dS h0 (by rw [h];exact .inr hn)).2.2;rw [h] at this;exact ⟨(congrArg Prod.fst this).symm,congrArg (fun x=>x.2.1) this⟩
theorem qlZ {l:List UInt8} {p n:Int} (h0:l.length≠0) (h:bw l=(p,n,0)) (hn:dA p=true):n=6:=by
 have:=(dS h0 (by rw [h];exact .inl hn)).2.2;rw [h] at this;exact congrArg (fun x=>x.2.1) this
theorem qde (l:List UInt8):Lib.strCells (aa l)=Lib.byteCells l:=rfl
theorem qc7 (s:ByteArray) (a m:Nat) (p:Int) (h:az (s.data.toList.drop a)=(p,(m:Int))) (hm:m≠0):Lib.strCells (s.extract a (a+m))=Lib.byteCells (enc p):=by
 have e:=qnI h hm;unfold Lib.strCells Lib.byteCells;rw [←e]
 congr 1
 simp [ByteArray.data_extract]
def toB (l:List Int):List UInt8:=l.map fun x=>UInt8.ofNat x.toNat
theorem qgb (l:List Int):(toB l).length=l.length:=by simp [toB]
theorem qbo (l:List Int) (h:∀ x∈l,0≤x∧x<256):Lib.byteCells (toB l)=l.map (Value.int .u8):=by
 simp only [Lib.byteCells,toB,List.map_map];apply List.map_congr_left;intro x hx;obtain ⟨h0,h1⟩:=h x hx;simp [Function.comp];omega
def qci (d:Int):Int:=if d<10 then 48+d else 87+d
theorem qdr {d:Int} (h0:0≤d) (h1:d≤15):48≤qci d∧qci d≤102:=by unfold qci;split <;> omega
def b8 (p:Int):Bool:=decide (p<32∨p=34∨p=92)
def qho (p:Int):List Int:=
 if p=34∨p=92 then [92,p] else if p=8 then [92,98] else if p=9 then [92,116] else if p=10 then [92,110] else if p=12 then [92,102] else if p=13 then [92,114]
 else [92,117,48,48,qci (p / 16),qci (p % 16)]
def qnX (p:Int):List Int:=if b8 p=true then qho p else dH p
def qbZ (c:Int):List Int:=if b8 c=true then qho c else [c]
def qpt (p:Int):List UInt8:=toB (qnX p)
def qb (c:UInt8):List UInt8:=toB (qbZ c.toNat)
def qL (ps:List Int):List UInt8:=(ps.map qpt).flatten
def qbL (l:List UInt8):List UInt8:=(l.map qb).flatten
theorem qjS (p:Int) (ps:List Int):qL (p::ps)=qpt p++qL ps:=by simp [qL]
theorem qag (a b:List UInt8):qbL (a++b)=qbL a++qbL b:=by simp [qbL]
theorem qk2 {p:Int} (h0:0≤p) (h1:b8 p=true):∀ x∈qho p,0≤x∧x<256:=by
 simp [b8] at h1;have a:=qdr (d:=p / 16);have b:=qdr (d:=p % 16);intro x hx;unfold qho at hx;by_cases c1:p=34∨p=92
 ·rw [if_pos c1] at hx;simp at hx;omega
 ·rw [if_neg c1] at hx;have a:=qdr (d:=p / 16) (by omega) (by omega);have b:=qdr (d:=p % 16) (by omega) (by omega)
  (repeat' split at hx) <;> (simp at hx;omega)
theorem qgA (p:Int):2≤(qho p).length∧(qho p).length≤6:=by unfold qho;(repeat' split) <;> simp
theorem qhT (c:Int) (h0:0≤c) (h1:c≤255):∀ x∈qbZ c,0≤x∧x<256:=by
 unfold qbZ;by_cases h:b8 c=true
 ·rw [if_pos h];exact qk2 h0 h
 ·rw [if_neg h];intro x hx;simp at hx;omega
theorem quf (c:UInt8):(qb c).length≤6:=by
 unfold qb qbZ;rw [qgb];split
 ·exact (qgA _).2
 ·simp
theorem qr1 (p:Int):(qpt p).length≤6:=by
 unfold qpt qnX;rw [qgb];split
 ·exact (qgA _).2
 ·have:=qkK p;omega
theorem qgH (l:List UInt8):(qbL l).length≤6*l.length:=by
 induction l with
 | nil=>simp [qbL]
 | cons a l ih=>
  have:=quf a;simp [qbL] at ih ⊢;omega
theorem qh0 (p:Int):toB (dH p)=enc p:=rfl
theorem qkZ {p:Int} (h:bc p=true) (h1:128≤p):∀ x∈dH p,128≤x∧x<256:=by
 have a:=qab h;intro x hx;by_cases c1:p<2048
 ·rw [qgl h h1 c1] at hx;simp at hx;omega
 ·by_cases c2:p<65536
  ·rw [qgq h (by omega) c2] at hx;simp at hx;omega
  ·rw [qgI h (by omega)] at hx;simp at hx;omega
theorem qlz (xs:List Int) (h:∀ x∈xs,128≤x∧x<256):qbL (toB xs)=toB xs:=by
 induction xs with
 | nil=>rfl
 | cons x xs ih=>
  have hx:=h x (by simp);have e:qb (UInt8.ofNat x.toNat)=[UInt8.ofNat x.toNat]:=by
   have:((UInt8.ofNat x.toNat).toNat:Int)=x:=by simp;omega
   unfold qb qbZ;rw [this,if_neg (by simp [b8];omega)];rfl
  have:=ih fun y hy=>h y (by simp [hy]);simp [qbL,toB] at this ⊢;rw [e,this];rfl
theorem qqq {p:Int} (h:bc p=true):qbL (enc p)=qpt p:=by
 have a:=qaW h;by_cases h1:p<128
 ·have e:enc p=[UInt8.ofNat p.toNat]:=by unfold enc;rw [qbw h h1];rfl
  have e2:((UInt8.ofNat p.toNat).toNat:Int)=p:=by simp;omega
  rw [e];simp only [qbL,List.map_cons,List.map_nil,List.flatten_cons,List.flatten_nil,List.append_nil];unfold qb qbZ qpt qnX;rw [e2,qbw h h1]
 ·have e:=qlz (dH p) (qkZ h (by omega));rw [qh0] at e;rw [e];unfold qpt qnX;rw [if_neg (by simp [b8];omega)];rfl
theorem qmS (ps:List Int) (h:∀ p∈ps,bc p=true):qbL (cF ps)=qL ps:=by
 induction ps with
 | nil=>rfl
 | cons p ps ih=>rw [qcD,qag,qjS,qqq (h p (by simp)),ih fun q hq=>h q (by simp [hq])]
theorem qgr (l:List UInt8) (h:(aB l).2.1≠0):((qpt (aB l).1).length:Int)≤(aB l).2.1:=by
 have six:=qr1 (aB l).1;unfold aB at h six ⊢;by_cases h0:l.length=0
 ·rw [if_pos h0] at h;simp at h
 ·rw [if_neg h0] at h six ⊢;by_cases h1:byt l 0=34
  ·rw [if_pos h1] at h;simp at h
  ·rw [if_neg h1] at h six ⊢;by_cases h2:byt l 0<32
   ·rw [if_pos h2] at h;simp at h
   ·rw [if_neg h2] at h six ⊢;by_cases h3:byt l 0=92
    ·rw [if_pos h3] at h six ⊢;by_cases h4:(dv l).2=0
     ·rw [if_pos h4] at h;simp at h
     ·rw [if_neg h4] at six ⊢;simp only at six ⊢;clear h;unfold dv at h4 six ⊢;by_cases h5:2≤l.length∧0≤cy (byt l 1)
      ·rw [if_pos h5];simp only;rcases (qh9 _ h5.2).1 with e | e | e | e | e | e | e | e <;> (rw [e];decide)
      ·rw [if_neg h5] at h4 six ⊢;by_cases h6:au l<0
       ·rw [if_pos h6] at h4;simp at h4
       ·rw [if_neg h6] at h4 six ⊢;by_cases h7:bc (au l)=true
        ·rw [if_pos h7] at six ⊢;simp only at six ⊢;omega
        ·rw [if_neg h7] at h4 six ⊢;by_cases h8:dA (au l)=true∧cN (au (l.drop 6))=true
         ·rw [if_pos h8] at six ⊢;simp only at six ⊢;omega
         ·rw [if_neg h8] at h4;simp at h4
    ·rw [if_neg h3] at h six ⊢;by_cases h4:(az l).2=0
     ·rw [if_pos h4] at h;simp at h
     ·rw [if_neg h4];simp only;have hp:b8 (az l).1=false:=by
       by_cases h5:byt l 0<128
       ·rw [qam h0 h5];simp [b8];omega
       ·have:=qeM (by omega) h4;simp [b8];omega
      unfold qpt qnX;rw [if_neg (by rw [hp];simp),qh0];rcases dV l with h5 | ⟨_,h6,_⟩
      ·rw [h5] at h4;simp at h4
      ·omega
theorem qi8 (l:List UInt8):(qL (aN l).1).length≤(aN l).2.1:=by
 induction l using qgx with
 | h l ih=>
  by_cases h:(aB l).2.1=0
  ·rw [qbM h];simp [qL]
  ·rcases qbd l with h1 | ⟨h3,h1,h4,h2,h5,_⟩
   ·exact absurd h1.1 h
   ·have hi:=ih (aB l).2.1.toNat (by omega) (by omega);have hs:=qgr l h;rw [qeA h];simp only;rw [qjS,List.length_append];omega
theorem el (l:List UInt8) (a:Int) (t:List UInt8) (n:Int) (h:bW l a=(t,n,0)) :
  (dj t).2=t.length∧((qbL t).length:Int)+a+2≤n∧a<n∧1≤n∧n≤l.length∧byt l (n.toNat-1)=34∧∃ q:Nat,a=q∧q<l.length∧byt l q=34:=by
 unfold bW at h;by_cases h1:a<0∨(l.length:Int)≤a∨byt l a.toNat≠34
 ·rw [if_pos h1] at h;have:=congrArg (fun x=>x.2.2) h;simp at this
 ·rw [if_neg h1] at h;obtain ⟨q,rfl⟩:=Int.eq_ofNat_of_zero_le (show 0≤a by omega);rw [Int.toNat_natCast] at h h1;obtain ⟨f1,f2,f3,f4⟩:=eh (l.drop (q+1));have f5:=qi8 (l.drop (q+1));by_cases h2:(aN (l.drop (q+1))).2.2=0
  ·rw [if_pos h2] at h;rcases f4 with f4 | f4 | ⟨_,f6,f7⟩
   ·omega
   ·omega
   ·have ht:cF (aN (l.drop (q+1))).1=t:=congrArg Prod.fst h;have hn:(q:Int)+1+(aN (l.drop (q+1))).2.1+1=n:=congrArg (fun x=>x.2.1) h;rw [List.length_drop] at f6;rw [ce] at f7;have e:dj (cF (aN (l.drop (q+1))).1++[])=_:=ql2 _ f3 [];rw [List.append_nil] at e;refine ⟨?_,?_,by omega,by omega,by omega,?_,q,rfl,by omega,?_⟩
    ·rw [←ht,e];simp [dj,qdH]
    ·rw [←ht,qmS _ f3];omega
    ·have:n.toNat-1=q+1+(aN (l.drop (q+1))).2.1:=by omega
     rw [this];exact f7
    ·by_cases h3:byt l q=34
     ·exact h3
     ·exact absurd (.inr (.inr h3)) h1
  ·rw [if_neg h2] at h;exact absurd (congrArg (fun x=>x.2.2) h) h2
end Ch
namespace Sc
open Go.RowKit Utf Nu
open Ch (bW qb2 eX aN eh el qbL)
abbrev Tok:=Int×Int×List UInt8×Int
def isW (c:Int):Bool:=decide (c=32∨c=9∨c=10∨c=13)
def qmF (c:Int):Bool:=decide (c=123∨c=125∨c=91∨c=93∨c=58∨c=44)
def qm1 (c:Int):Bool:=decide (c=45∨(48≤c∧c≤57))
def qc8 (c:Int):Bool:=decide ((97≤c∧c≤122)∨(65≤c∧c≤90)∨(48≤c∧c≤57)∨c=95)
theorem qjX (c:Int):isW c=true↔(c=32∨c=9∨c=10∨c=13):=by simp [isW]
theorem qhq (c:Int):qmF c=true↔(c=123∨c=125∨c=91∨c=93∨c=58∨c=44):=by simp [qmF]
theorem qhK (c:Int):qm1 c=true↔(c=45∨(48≤c∧c≤57)):=by simp [qm1]
theorem qec (c:Int):qc8 c=true↔((97≤c∧c≤122)∨(65≤c∧c≤90)∨(48≤c∧c≤57)∨c=95):=by simp [qc8]
theorem qqB {b:Bool} {p:Prop} (h:b=true↔p) (hn:¬p):b=false:=by cases b with
 | false=>rfl
 | true=>exact absurd (h.1 rfl) hn
def da:List UInt8:=[116,114,117,101]
def qal:List UInt8:=[102,97,108,115,101]
def dy:List UInt8:=[110,117,108,108]
def qgJ (l:List UInt8) (k:Nat) (w:List UInt8):Prop:=(l.drop k).take w.length=w∧qc8 (byt l (k+w.length))=false
instance (l:List UInt8) (k:Nat) (w:List UInt8):Decidable (qgJ l k w):=by unfold qgJ;infer_instance
def wrd (l:List UInt8) (k:Nat) (w:List UInt8):Option Tok×Int×Int:=
 if qgJ l k w then (some (2,0,w,(k:Int)),((k+w.length:Nat):Int),0) else (none,(k:Int),40)
def txT (l:List UInt8) (k:Nat):Option Tok×Int×Int:=
 if (bW l k).2.2=0 then (some (4,0,(bW l k).1,(k:Int)),(bW l k).2.1,0) else (none,(bW l k).2.1,(bW l k).2.2)
def nmT (l:List UInt8) (k:Nat):Option Tok×Int×Int:=
 if (rdS l k).2.2=0 then (some (3,(rdS l k).1,[],(k:Int)),(rdS l k).2.1,0) else (none,(rdS l k).2.1,(rdS l k).2.2)
def stp (l:List UInt8) (k:Nat):Option Tok×Int×Int:=
 if isW (byt l k)=true then (none,((k+1:Nat):Int),0)
 else if qmF (byt l k)=true then (some (1,0,[l.getD k 0],(k:Int)),((k+1:Nat):Int),0)
 else if byt l k=34 then txT l k
 else if qm1 (byt l k)=true then nmT l k
 else if byt l k=116 then wrd l k da
 else if byt l k=102 then wrd l k qal
 else if byt l k=110 then wrd l k dy
 else (none,(k:Int),40)
def eP (ts:List Tok) (r:List Tok×Int×Int):List Tok×Int×Int:=if r.2.2=0 then (ts++r.1,r.2.1,0) else r
theorem qlr (r:List Tok×Int×Int):eP [] r=r:=by
 unfold eP;split
 ·rename_i h;rw [Prod.ext_iff,Prod.ext_iff];exact ⟨rfl,rfl,h.symm⟩
 ·rfl
theorem qk9 (a b:List Tok) (r:List Tok×Int×Int):eP (a++b) r=eP a (eP b r):=by
 unfold eP;by_cases h:r.2.2=0
 ·rw [if_pos h,if_pos h,if_pos rfl,List.append_assoc]
 ·rw [if_neg h,if_neg h,if_neg h]
def qcN (l:List UInt8):Nat→Nat→List Tok×Int×Int
 | 0,_=>([],0,0)
 | f+1,k=>if k<l.length then (if (stp l k).2.2=0 then eP (stp l k).1.toList (qcN l f (stp l k).2.1.toNat) else ([],(stp l k).2.1,(stp l k).2.2)) else ([],0,0)
def scn (l:List UInt8) (k:Nat):List Tok×Int×Int:=qcN l (l.length-k) k
def eb (l:List UInt8):List Tok×Int×Int:=if 65536<l.length then ([],0,2) else scn l 0
theorem qhN {l:List UInt8} {k:Nat} (h:(bW l k).2.2=0):∃ m:Nat,(bW l k).2.1=m∧k<m∧m≤l.length:=by
 rcases hr:bW l k with ⟨t,n,e⟩;rw [hr] at h;simp only at h;subst h;obtain ⟨_,_,h3,h4,h5,_⟩:=el l k t n hr;exact ⟨n.toNat,by show n=_;omega,by omega,by omega⟩
theorem qk3 {l:List UInt8} {k:Nat} (hk:k<l.length) (h:(rdS l k).2.2=0):∃ m:Nat,(rdS l k).2.1=m∧k<m∧m≤l.length:=by
 have e:rdS l k=rdN l k:=by rw [rdS,if_neg (by omega),Int.toNat_natCast]
 rw [e] at h ⊢;unfold rdN at h ⊢;split
 ·rename_i hb;rw [if_pos hb] at h;simp at h
 ·rename_i hb
  have h1:=qoM l k hk;have h2:=qjQ l (bJ l k) h1.2;have h3:cZ l (bJ l k)≠0:=fun h=>hb (.inl h);exact ⟨_,rfl,by omega,h2⟩
theorem qa6 {l:List UInt8} {k:Nat} {w:List UInt8} (hw:w≠[]) (h:(wrd l k w).2.2=0):∃ m:Nat,(wrd l k w).2.1=m∧k<m∧m≤l.length:=by
 unfold wrd at h ⊢;split
 ·rename_i hh
  have h1:=congrArg List.length hh.1;have h2:w.length≠0:=fun h=>hw (List.eq_nil_of_length_eq_zero h);rw [List.length_take,List.length_drop] at h1;exact ⟨_,rfl,by omega,by omega⟩
 ·rename_i hh;rw [if_neg hh] at h;simp at h
theorem qcy {l:List UInt8} {k:Nat} (hk:k<l.length) (h:(stp l k).2.2=0):∃ m:Nat,(stp l k).2.1=m∧k<m∧m≤l.length:=by
 unfold stp at h ⊢;split
 ·exact ⟨k+1,rfl,by omega,by omega⟩
 ·rename_i c1;rw [if_neg c1] at h
  split
  ·exact ⟨k+1,rfl,by omega,by omega⟩
  ·rename_i c2;rw [if_neg c2] at h
   split
   ·rename_i c3;rw [if_pos c3] at h
    unfold txT at h ⊢;by_cases c:(bW l k).2.2=0
    ·rw [if_pos c];exact qhN c
    ·rw [if_neg c] at h;exact absurd h c
   ·rename_i c3;rw [if_neg c3] at h
    split
    ·rename_i c4;rw [if_pos c4] at h
     unfold nmT at h ⊢;by_cases c:(rdS l k).2.2=0
     ·rw [if_pos c];exact qk3 hk c
     ·rw [if_neg c] at h;exact absurd h c
    ·rename_i c4;rw [if_neg c4] at h
     split
     ·rename_i c5;rw [if_pos c5] at h;exact qa6 (by decide) h
     ·rename_i c5;rw [if_neg c5] at h
      split
      ·rename_i c6;rw [if_pos c6] at h;exact qa6 (by decide) h
      ·rename_i c6;rw [if_neg c6] at h
       split
       ·rename_i c7;rw [if_pos c7] at h;exact qa6 (by decide) h
       ·rename_i c7;rw [if_neg c7] at h;simp at h
theorem qlP (l:List UInt8):∀ f g k,l.length-k≤f→l.length-k≤g→qcN l f k=qcN l g k:=by
 intro f;induction f with
 | zero=>
  intro g k h1 h2;cases g with
  | zero=>rfl
  | succ g=>rw [qcN,qcN,if_neg (by omega)]
 | succ f ih=>
  intro g k h1 h2;cases g with
  | zero=>rw [qcN,qcN,if_neg (by omega)]
  | succ g=>
   rw [qcN,qcN];by_cases hk:k<l.length
   ·rw [if_pos hk,if_pos hk];by_cases he:(stp l k).2.2=0
    ·obtain ⟨m,h3,h4,h5⟩:=qcy hk he;rw [if_pos he,if_pos he,h3,Int.toNat_natCast,ih g m (by omega) (by omega)]
    ·rw [if_neg he,if_neg he]
   ·rw [if_neg hk,if_neg hk]
theorem qge {l:List UInt8} {k:Nat} (h:l.length≤k):scn l k=([],0,0):=by
 rw [scn,show l.length-k=0 by omega,qcN]
theorem qkx {l:List UInt8} {k:Nat} (hk:k<l.length) (h:(stp l k).2.2≠0):scn l k=([],(stp l k).2.1,(stp l k).2.2):=by
 rw [scn,show l.length-k=(l.length-k-1)+1 by omega,qcN,if_pos hk,if_neg h]
theorem qmK {l:List UInt8} {k m:Nat} {o:Option Tok} (hk:k<l.length) (h:stp l k=(o,(m:Int),0)):scn l k=eP o.toList (scn l m):=by
 rw [scn,show l.length-k=(l.length-k-1)+1 by omega,qcN,if_pos hk,if_pos (by rw [h]),h];have:=qcy hk (by rw [h]);rw [h] at this;obtain ⟨m',e,h4,h5⟩:=this;simp only at e;rw [scn];simp only [Int.toNat_natCast];rw [qlP l (l.length-k-1) (l.length-m) m (by omega) (by omega)]
inductive d9 (l:List UInt8):Nat→List Tok→Nat→Prop
 | nil (k:Nat):d9 l k [] k
 | cons {k m n:Nat} {o:Option Tok} {ts:List Tok}:k<l.length→stp l k=(o,(m:Int),0)→d9 l m ts n→d9 l k (o.toList++ts) n
theorem d9.trans {l:List UInt8} {k m n:Nat} {ts us:List Tok} (h1:d9 l k ts m) (h2:d9 l m us n):d9 l k (ts++us) n:=by
 induction h1 with
 | nil k=>exact h2
 | cons hk hs _ ih=>rw [List.append_assoc];exact .cons hk hs (ih h2)
theorem d9.one {l:List UInt8} {k m:Nat} {o:Option Tok} (hk:k<l.length) (h:stp l k=(o,(m:Int),0)):d9 l k o.toList m:=by
 have:=d9.cons hk h (.nil m);rwa [List.append_nil] at this
theorem d9.snoc {l:List UInt8} {k m n:Nat} {o:Option Tok} {ts:List Tok} (h1:d9 l k ts m) (hm:m<l.length) (h:stp l m=(o,(n:Int),0)):d9 l k (ts++o.toList) n:=h1.trans (.one hm h)
theorem d9.scn {l:List UInt8} {k m:Nat} {ts:List Tok} (h:d9 l k ts m):scn l k=eP ts (scn l m):=by
 induction h with
 | nil k=>rw [qlr]
 | cons hk hs _ ih=>rw [qmK hk hs,ih,←qk9]
theorem d9.le {l:List UInt8} {k m:Nat} {ts:List Tok} (h:d9 l k ts m):k≤m∧ts.length≤m-k∧(k≤l.length→m≤l.length):=by
 induction h with
 | nil k=>simp
 | cons hk hs _ ih=>
  rename_i k m n o ts _
  have:=qcy hk (by rw [hs]);rw [hs] at this;obtain ⟨m',e,h4,h5⟩:=this;simp only at e;have:o.toList.length≤1:=by cases o <;> simp
  rw [List.length_append];omega
theorem qpc (l:List UInt8):∀ f k,l.length-k≤f→k≤l.length→(scn l k).2.2=0→d9 l k (scn l k).1 l.length∧(scn l k).2.1=0:=by
 intro f;induction f with
 | zero=>
  intro k h1 h2 _;obtain rfl:k=l.length:=by omega
  rw [qge (Nat.le_refl _)];exact ⟨.nil _,rfl⟩
 | succ f ih=>
  intro k h1 h2 h3;by_cases hk:k<l.length
  ·by_cases he:(stp l k).2.2=0
   ·obtain ⟨m,h4,h5,h6⟩:=qcy hk he;have hs:stp l k=((stp l k).1,(m:Int),0):=by rw [Prod.ext_iff,Prod.ext_iff];exact ⟨rfl,h4,he⟩
    rw [qmK hk hs] at h3 ⊢;have he2:(scn l m).2.2=0:=by
     unfold eP at h3;by_cases h:(scn l m).2.2=0
     ·exact h
     ·rw [if_neg h] at h3;exact h3
    obtain ⟨h7,h8⟩:=ih m (by omega) h6 he2;rw [eP,if_pos he2];exact ⟨.cons hk hs h7,h8⟩
   ·rw [qkx hk he] at h3;exact absurd h3 he
  ·obtain rfl:k=l.length:=by omega
   rw [qge (Nat.le_refl _)];exact ⟨.nil _,rfl⟩
theorem qlv {l:List UInt8} (h:(eb l).2.2=0):l.length≤65536∧eb l=scn l 0∧d9 l 0 (eb l).1 l.length∧(eb l).2.1=0:=by
 unfold eb at h ⊢;by_cases hl:65536<l.length
 ·rw [if_pos hl] at h;simp at h
 ·rw [if_neg hl] at h ⊢;exact ⟨by omega,rfl,qpc l _ 0 (Nat.le_refl _) (by omega) h⟩
def qbf (k:Nat):List UInt8:=if k=0 then da else if k=1 then qal else dy
def wdF (l:List UInt8) (p:Nat):Nat→Nat→Nat
 | 0,_=>0
 | f+1,k=>if qgJ l p (qbf k) then (qbf k).length else wdF l p f (k+1)
def wdN (l:List UInt8) (p:Nat):Nat:=wdF l p 3 0
theorem qhI (k:Nat):4≤(qbf k).length∧(qbf k).length≤5:=by 
 unfold qbf;split
 ·decide
 ·split <;> decide
theorem qj9 (k:Nat):byt (qbf k) 0=if k=0 then 116 else if k=1 then 102 else 110:=by 
 unfold qbf;split
 ·rfl
 ·split <;> rfl
theorem qpJ {l:List UInt8} {p:Nat} {y:List UInt8} (h:qgJ l p y) (hy:0<y.length):byt y 0=byt l p:=by
 obtain ⟨h,_⟩:=h;have h2:(l.drop p)[0]? = y[0]?:=by rw [←h,List.getElem?_take,if_pos hy]
 unfold byt;rw [List.getD_eq_getElem?_getD,List.getD_eq_getElem?_getD,←h2,List.getElem?_drop,Nat.add_zero]
theorem qux {l:List UInt8} {p k:Nat} (hk:k<3) (h:byt l p=byt (qbf k) 0):wdN l p=if qgJ l p (qbf k) then (qbf k).length else 0:=by
 have no:∀ j,j<3→j≠k→¬qgJ l p (qbf j):=by
  intro j hj hjk hh;have h1:=qpJ hh (by have:=(qhI j).1;omega);rw [h,qj9,qj9] at h1;rcases (show k=0∨k=1∨k=2 by omega) with rfl | rfl | rfl <;> rcases (show j=0∨j=1∨j=2 by omega) with rfl | rfl | rfl <;> simp at h1 hjk
 unfold wdN;rw [wdF,wdF,wdF,wdF];rcases (show k=0∨k=1∨k=2 by omega) with rfl | rfl | rfl
 ·rw [if_neg (no 1 (by omega) (by omega)),if_neg (no 2 (by omega) (by omega))]
 ·rw [if_neg (no 0 (by omega) (by omega)),if_neg (no 2 (by omega) (by omega))]
 ·rw [if_neg (no 0 (by omega) (by omega)),if_neg (no 1 (by omega) (by omega))]
def qrv (p:Bool) (t u:Tok):Prop:=t.1=u.1∧t.2.1=u.2.1∧t.2.2.1=u.2.2.1∧(p=true→t.2.2.2=u.2.2.2)
def dU (p:Bool):List Tok→List Tok→Prop
 | [],[]=>True
 | t::r,u::s=>qrv p t u∧dU p r s
 | _,_=>False
theorem eI (p:Bool):∀ ts us,dU p ts us↔ts.length=us.length∧∀ i (h1:i<ts.length) (h2:i<us.length),qrv p ts[i] us[i]:=by
 intro ts;induction ts with
 | nil=>intro us;cases us with
  | nil=>simp [dU]
  | cons u s=>simp [dU]
 | cons t r ih=>intro us;cases us with
  | nil=>simp [dU]
  | cons u s=>
   simp only [dU,ih,List.length_cons];constructor
   ·rintro ⟨h0,h1,h2⟩;refine ⟨by omega,fun i g1 g2=>?_⟩;cases i with
    | zero=>exact h0
    | succ i=>exact h2 i (by omega) (by omega)
   ·rintro ⟨h1,h2⟩;exact ⟨h2 0 (by omega) (by omega),by omega,fun i g1 g2=>h2 (i+1) (by omega) (by omega)⟩
theorem qsB (c:UInt8):1≤(Ch.qb c).length:=by
 unfold Ch.qb;rw [Ch.qgb];unfold Ch.qbZ;split
 ·have:=(Ch.qgA (c.toNat:Int)).1;omega
 ·simp
theorem qqy (l:List UInt8):l.length≤(qbL l).length:=by
 induction l with
 | nil=>simp
 | cons c r ih=>
  have h:=qsB c;rw [show c::r=[c]++r from rfl,Ch.qag,List.length_append,List.length_append];have:(qbL [c]).length=(Ch.qb c).length:=by simp [qbL]
  simp only [List.length_singleton];omega
def okT (t:Tok):Prop:=
 (t.1=1∧t.2.1=0∧∃ c:UInt8,t.2.2.1=[c]∧qmF (c.toNat:Int)=true)∨(t.1=2∧t.2.1=0∧∃ i,i<3∧t.2.2.1=qbf i)∨
 (t.1=3∧t.2.1.natAbs≤qe1∧t.2.2.1=[])∨(t.1=4∧t.2.1=0∧(dj t.2.2.1).2=t.2.2.1.length)
def wr (t:Tok):List UInt8:=if t.1=3 then qbi t.2.1 else if t.1=4 then 34::(qbL t.2.2.1++[34]) else t.2.2.1
theorem qqK {l:List UInt8} {k:Nat} {m:Int} {t:Tok} (h:stp l k=(some t,m,0)):okT t∧t.2.2.1.length≤l.length+1:=by
 have key:∀ i,i<3→wrd l k (qbf i)=(some t,m,0)→okT t∧t.2.2.1.length≤l.length+1:=by
  intro i hi hw;have hle:=qa6 (w:=qbf i) (l:=l) (k:=k) (fun e=>by have:=(qhI i).1;rw [e] at this;simp at this) (by rw [hw]);unfold wrd at hw;split at hw
  ·rename_i hh
   have e:(2,0,qbf i,(k:Int))=t:=Option.some.inj (congrArg Prod.fst hw);subst e;refine ⟨.inr (.inl ⟨rfl,rfl,i,hi,rfl⟩),?_⟩;have h1:=congrArg List.length hh.1;rw [List.length_take,List.length_drop] at h1;show (qbf i).length≤l.length+1;omega
  ·exact absurd (congrArg (fun x=>x.2.2) hw) (by simp)
 unfold stp at h;by_cases c1:isW (byt l k)=true
 ·rw [if_pos c1] at h;exact absurd (congrArg Prod.fst h) (by simp)
 rw [if_neg c1] at h;by_cases c2:qmF (byt l k)=true
 ·rw [if_pos c2] at h;have e:(1,0,[l.getD k 0],(k:Int))=t:=Option.some.inj (congrArg Prod.fst h);subst e;exact ⟨.inl ⟨rfl,rfl,_,rfl,c2⟩,by simp⟩
 rw [if_neg c2] at h;by_cases c3:byt l k=34
 ·rw [if_pos c3] at h;unfold txT at h;split at h
  ·rename_i he
   have e:=Option.some.inj (congrArg Prod.fst h);subst e;rcases hr:bW l k with ⟨tx,n,e⟩;rw [hr] at he;simp only at he;subst he;obtain ⟨f1,f2,f3,f4,f5,_⟩:=el l k tx n hr;refine ⟨.inr (.inr (.inr ⟨rfl,rfl,f1⟩)),?_⟩;have hq:=qqy tx;show tx.length≤l.length+1;omega
  ·rename_i he;exact absurd (congrArg (fun x=>x.2.2) h) he
 rw [if_neg c3] at h;by_cases c4:qm1 (byt l k)=true
 ·rw [if_pos c4] at h;unfold nmT at h;split at h
  ·have e:=Option.some.inj (congrArg Prod.fst h);subst e;have hb:=qi2 l k;refine ⟨.inr (.inr (.inl ⟨rfl,?_,rfl⟩)),by simp⟩;show (rdS l k).1.natAbs≤qe1;omega
  ·rename_i he;exact absurd (congrArg (fun x=>x.2.2) h) he
 rw [if_neg c4] at h;by_cases c5:byt l k=116
 ·rw [if_pos c5] at h;exact key 0 (by omega) h
 rw [if_neg c5] at h;by_cases c6:byt l k=102
 ·rw [if_pos c6] at h;exact key 1 (by omega) h
 rw [if_neg c6] at h;by_cases c7:byt l k=110
 ·rw [if_pos c7] at h;exact key 2 (by omega) h
 rw [if_neg c7] at h;exact absurd (congrArg Prod.fst h) (by simp)
theorem d9.okT {l:List UInt8} {k n:Nat} {ts:List Tok} (h:d9 l k ts n):∀ t∈ts,okT t∧t.2.2.1.length≤l.length+1:=by
 induction h with
 | nil k=>simp
 | cons hk hs _ ih=>
  rename_i o ts _
  intro t ht;rw [List.mem_append] at ht;rcases ht with ht | ht
  ·cases o with
   | none=>simp at ht
   | some u=>
    simp at ht;subst ht;exact qqK hs
  ·exact ih t ht
end Sc
namespace Re
open Utf Sc
inductive V:Type
 | mk (k n:Int) (s:List UInt8) (l:List V) (ns:List (List UInt8)) (ms:List V):V
def V.k:V→Int | .mk k _ _ _ _ _=>k
def V.n:V→Int | .mk _ n _ _ _ _=>n
def V.s:V→List UInt8 | .mk _ _ s _ _ _=>s
def V.l:V→List V | .mk _ _ _ l _ _=>l
def V.ns:V→List (List UInt8) | .mk _ _ _ _ ns _=>ns
def V.ms:V→List V | .mk _ _ _ _ _ ms=>ms
def V0:V:= .mk 0 0 [] [] [] []
def txV (s:List UInt8):V:= .mk 4 0 s [] [] []
def nmV (n:Int):V:= .mk 3 n [] [] [] []
def wdV (s:List UInt8):V:=if s=dy then .mk 1 0 [] [] [] [] else if s=da then .mk 2 1 [] [] [] [] else .mk 2 0 [] [] [] []
def lsV (l:List V):V:= .mk 5 0 [] l [] []
def mpV (x:List (List UInt8)×List V):V:= .mk 6 0 [] [] x.1 x.2
mutual
/-- how high a value is -/
def ht:V→Nat
 | .mk _ _ _ l _ ms=>max (htL l) (htL ms)+1
def htL:List V→Nat
 | []=>0
 | v::r=>max (ht v) (htL r)
end
theorem bn {v:V} {l:List V} (h:v∈l):ht v≤htL l:=by
 induction l with
 | nil=>cases h
 | cons a r ih=>
  rw [htL];rcases List.mem_cons.1 h with rfl | h
  ·omega
  ·have:=ih h;omega
inductive Rs (α : Type):Type
 | bad (a y:Int):Rs α
 | ok (v : α) (i p:Nat):Rs α
def Rs.map {α β : Type} (f : α → β):Rs α →Rs β
 | .bad a y=> .bad a y
 | .ok v i p=> .ok (f v) i p
def tk (ts:List Tok) (E:Int) (i:Nat):Tok:=ts.getD i (0,0,[],E)
def isM (t:Tok) (c:UInt8):Bool:=decide (t.1=1∧t.2.2.1=[c])
def qcO (t:Tok):Bool:=decide (t.1=0∨(t.1=1∧t.2.2.1≠[91]∧t.2.2.1≠[123]))
mutual
/-- the value that begins with a token -/
def pV (ts:List Tok) (E:Int):Nat→Nat→Nat→Nat→Rs V
 | 0,_,i,_=> .bad (tk ts E i).2.2.2 50
 | f+1,d,i,p=>
  if qcO (tk ts E i)=true then .bad (tk ts E i).2.2.2 50
  else if 16<d then .bad (tk ts E i).2.2.2 51
  else if p=8192 then .bad (tk ts E i).2.2.2 53
  else if (tk ts E i).1=4 then .ok (txV (tk ts E i).2.2.1) (i+1) (p+1)
  else if (tk ts E i).1=3 then .ok (nmV (tk ts E i).2.1) (i+1) (p+1)
  else if (tk ts E i).1=2 then .ok (wdV (tk ts E i).2.2.1) (i+1) (p+1)
  else if (tk ts E i).2.2.1=[91] then
   (if isM (tk ts E (i+1)) 93=true then .ok (lsV []) (i+1+1) (p+1) else (pL ts E f d (i+1) (p+1)).map lsV)
  else
   (if isM (tk ts E (i+1)) 125=true then .ok (mpV ([],[])) (i+1+1) (p+1) else (pM ts E f d (i+1) (p+1) []).map mpV)
/-- the values of a list, from one on -/
def pL (ts:List Tok) (E:Int):Nat→Nat→Nat→Nat→Rs (List V)
 | 0,_,i,_=> .bad (tk ts E i).2.2.2 50
 | f+1,d,i,p=>
  match pV ts E f (d+1) i p with
  | .bad a y=> .bad a y
  | .ok v j q=>
   if isM (tk ts E j) 93=true then .ok [v] (j+1) q
   else if isM (tk ts E j) 44=true then (pL ts E f d (j+1) q).map fun vs=>v::vs
   else .bad (tk ts E j).2.2.2 50
/-- the members of a map, from one on; ns: the names of those ahead -/
def pM (ts:List Tok) (E:Int):Nat→Nat→Nat→Nat→List (List UInt8)→Rs (List (List UInt8)×List V)
 | 0,_,i,_,_=> .bad (tk ts E i).2.2.2 50
 | f+1,d,i,p,ns=>
  if (tk ts E i).1≠4 then .bad (tk ts E i).2.2.2 50
  else if (tk ts E i).2.2.1∈ns then .bad (tk ts E i).2.2.2 52
  else if isM (tk ts E (i+1)) 58=false then .bad (tk ts E (i+1)).2.2.2 50
  else match pV ts E f (d+1) (i+1+1) p with
  | .bad a y=> .bad a y
  | .ok v j q=>
   if isM (tk ts E j) 125=true then .ok ([(tk ts E i).2.2.1],[v]) (j+1) q
   else if isM (tk ts E j) 44=true then (pM ts E f d (j+1) q (ns++[(tk ts E i).2.2.1])).map fun x=>((tk ts E i).2.2.1::x.1,v::x.2)
   else .bad (tk ts E j).2.2.2 50
end
def eE (ts:List Tok):Nat:=2*ts.length+4
def rdT (ts:List Tok) (E:Int):V×Int×Int:=
 match pV ts E (eE ts) 1 0 0 with
 | .bad a y=>(V0,a,y)
 | .ok v i _=>if i<ts.length then (V0,(tk ts E i).2.2.2,50) else (v,0,0)
def rdV (l:List UInt8):V×Int×Int:=
 if (eb l).2.2≠0 then (V0,(eb l).2.1,(eb l).2.2) else rdT (eb l).1 (l.length:Int)
theorem qmJ {ts:List Tok} {E:Int} {i:Nat} (h:i<ts.length):tk ts E i=ts[i]:=by
 unfold tk;rw [List.getD_eq_getElem?_getD,List.getElem?_eq_getElem h];rfl
theorem qcY {ts:List Tok} {E:Int} {i:Nat} (h:ts.length≤i):tk ts E i=(0,0,[],E):=by
 unfold tk;rw [List.getD_eq_getElem?_getD,List.getElem?_eq_none h];rfl
theorem qbJ {ts:List Tok} {E:Int} {i:Nat} {c:UInt8} (h:isM (tk ts E i) c=true):i<ts.length:=by
 rcases Nat.lt_or_ge i ts.length with h1 | h1
 ·exact h1
 ·rw [qcY h1] at h;simp [isM] at h
theorem qj1 {ts:List Tok} {E:Int} {i:Nat} (h:qcO (tk ts E i)=false):i<ts.length:=by
 rcases Nat.lt_or_ge i ts.length with h1 | h1
 ·exact h1
 ·rw [qcY h1] at h;simp [qcO] at h
mutual
/-- how many values there are in one -/
def cnt:V→Nat
 | .mk _ _ _ l _ ms=>1+bu l+bu ms
def bu:List V→Nat
 | []=>0
 | v::r=>cnt v+bu r
end
mutual
/-- how deep values lie -/
def dp:V→Nat→Nat
 | .mk _ _ _ l _ ms,d=>max d (max (dpL l (d+1)) (dpL ms (d+1)))
def dpL:List V→Nat→Nat
 | [],_=>0
 | v::r,d=>max (dp v d) (dpL r d)
end
mutual
/-- no name twice, a value for each name -/
def okV:V→Prop
 | .mk _ _ _ l ns ms=>ns.length=ms.length∧ns.Nodup∧okL l∧okL ms
def okL:List V→Prop
 | []=>True
 | v::r=>okV v∧okL r
end
theorem qj0 (v:V):1≤cnt v:=by cases v;rw [cnt];omega
theorem qga {α β : Type} {f : α → β} {r:Rs α} {v : β} {j q:Nat} (h:r.map f = .ok v j q):∃ u,r = .ok u j q∧f u=v:=by
 cases r with
 | bad a y=>cases h
 | ok u i p=>cases h;exact ⟨u,rfl,rfl⟩
theorem qoY (k n:Int) (s:List UInt8):cnt (.mk k n s [] [] [])=1∧(∀ d,dp (.mk k n s [] [] []) d=d)∧okV (.mk k n s [] [] []):=by
 refine ⟨by simp [cnt,bu],fun d=>by simp [dp,dpL],by simp [okV,okL]⟩
theorem qo5 (s:List UInt8):∃ k n,wdV s = .mk k n [] [] [] []:=by
 unfold wdV;by_cases h:s=dy
 ·rw [if_pos h];exact ⟨_,_,rfl⟩
 ·rw [if_neg h];by_cases h2:s=da
  ·rw [if_pos h2];exact ⟨_,_,rfl⟩
  ·rw [if_neg h2];exact ⟨_,_,rfl⟩
theorem qqA {ts:List Tok} {E:Int} {i:Nat} (h:(tk ts E i).1≠0):i<ts.length:=by
 rcases Nat.lt_or_ge i ts.length with h1 | h1
 ·exact h1
 ·rw [qcY h1] at h;exact absurd rfl h
theorem qsg (ts:List Tok) (E:Int):∀ f,
  (∀ d i p v j q,pV ts E f d i p = .ok v j q→p≤8192→i<j∧j≤ts.length∧q=p+cnt v∧q≤8192∧dp v d≤16∧okV v)∧
  (∀ d i p l j q,pL ts E f d i p = .ok l j q→p≤8192→i<j∧j≤ts.length∧q=p+bu l∧q≤8192∧dpL l (d+1)≤16∧okL l∧l≠[])∧
  (∀ d i p ns x j q,pM ts E f d i p ns = .ok x j q→p≤8192→ns.Nodup→i<j∧j≤ts.length∧q=p+bu x.2∧q≤8192∧dpL x.2 (d+1)≤16∧okL x.2∧x.1.length=x.2.length∧(ns++x.1).Nodup∧x.1≠[]):=by
 intro f;induction f with
 | zero=>exact ⟨fun d i p v j q h=>(by rw [pV] at h;cases h),fun d i p v j q h=>(by rw [pL] at h;cases h),fun d i p ns v j q h=>(by rw [pM] at h;cases h)⟩
 | succ f ih=>
  obtain ⟨iV,iL,iM⟩:=ih;refine ⟨fun d i p v j q h hp=>?_,fun d i p l j q h hp=>?_,fun d i p ns x j q h hp hn=>?_⟩
  ·rw [pV] at h;by_cases c1:qcO (tk ts E i)=true
   ·rw [if_pos c1] at h;cases h
   have hi:=qj1 (ts:=ts) (E:=E) (i:=i) (by simpa using c1);rw [if_neg c1] at h;by_cases c2:16<d
   ·rw [if_pos c2] at h;cases h
   rw [if_neg c2] at h;by_cases c3:p=8192
   ·rw [if_pos c3] at h;cases h
   rw [if_neg c3] at h;by_cases c4:(tk ts E i).1=4
   ·rw [if_pos c4] at h;cases h;obtain ⟨l1,l2,l3⟩:=qoY 4 0 (tk ts E i).2.2.1;exact ⟨by omega,by omega,by rw [txV,l1],by omega,by rw [txV,l2];omega,l3⟩
   rw [if_neg c4] at h;by_cases c5:(tk ts E i).1=3
   ·rw [if_pos c5] at h;cases h;obtain ⟨l1,l2,l3⟩:=qoY 3 (tk ts E i).2.1 [];exact ⟨by omega,by omega,by rw [nmV,l1],by omega,by rw [nmV,l2];omega,l3⟩
   rw [if_neg c5] at h;by_cases c6:(tk ts E i).1=2
   ·rw [if_pos c6] at h;cases h;obtain ⟨k,n,hw⟩:=qo5 (tk ts E i).2.2.1;obtain ⟨l1,l2,l3⟩:=qoY k n [];rw [hw];exact ⟨by omega,by omega,by rw [l1],by omega,by rw [l2];omega,l3⟩
   rw [if_neg c6] at h;by_cases c7:(tk ts E i).2.2.1=[91]
   ·rw [if_pos c7] at h;by_cases c8:isM (tk ts E (i+1)) 93=true
    ·rw [if_pos c8] at h;cases h;have:=qbJ c8;obtain ⟨l1,l2,l3⟩:=qoY 5 0 [];exact ⟨by omega,by omega,by rw [lsV,l1],by omega,by rw [lsV,l2];omega,l3⟩
    ·rw [if_neg c8] at h;obtain ⟨u,h1,rfl⟩:=qga h;obtain ⟨a1,a2,a3,a4,a5,a6,a7⟩:=iL d (i+1) (p+1) u j q h1 (by omega);refine ⟨by omega,a2,?_,a4,?_,?_⟩
     ·rw [lsV,cnt,bu];omega
     ·rw [lsV,dp,dpL];omega
     ·rw [lsV,okV,okL];exact ⟨rfl,List.nodup_nil,a6,trivial⟩
   ·rw [if_neg c7] at h;by_cases c8:isM (tk ts E (i+1)) 125=true
    ·rw [if_pos c8] at h;cases h;have:=qbJ c8;obtain ⟨l1,l2,l3⟩:=qoY 6 0 [];exact ⟨by omega,by omega,by rw [mpV,l1],by omega,by rw [mpV,l2];omega,l3⟩
    ·rw [if_neg c8] at h;obtain ⟨u,h1,rfl⟩:=qga h;obtain ⟨a1,a2,a3,a4,a5,a6,a7,a8,_⟩:=iM d (i+1) (p+1) [] u j q h1 (by omega) List.nodup_nil;refine ⟨by omega,a2,?_,a4,?_,?_⟩
     ·rw [mpV,cnt,bu];omega
     ·rw [mpV,dp,dpL];omega
     ·rw [mpV,okV,okL];exact ⟨a7,by simpa using a8,trivial,a6⟩
  ·rw [pL] at h;rcases hv:pV ts E f (d+1) i p with ⟨a,y⟩ | ⟨v,j1,q1⟩
   ·rw [hv] at h;cases h
   ·rw [hv] at h;simp only at h;obtain ⟨b1,b2,b3,b4,b5,b6⟩:=iV (d+1) i p v j1 q1 hv hp;by_cases c1:isM (tk ts E j1) 93=true
    ·rw [if_pos c1] at h;cases h;have:=qbJ c1;refine ⟨by omega,by omega,by rw [bu,bu];omega,b4,by rw [dpL,dpL];omega,⟨b6,trivial⟩,by simp⟩
    ·rw [if_neg c1] at h;by_cases c2:isM (tk ts E j1) 44=true
     ·rw [if_pos c2] at h;obtain ⟨u,h1,rfl⟩:=qga h;obtain ⟨a1,a2,a3,a4,a5,a6,a7⟩:=iL d (j1+1) q1 u j q h1 b4;refine ⟨by omega,a2,by rw [bu];omega,a4,by rw [dpL];omega,⟨b6,a6⟩,by simp⟩
     ·rw [if_neg c2] at h;cases h
  ·rw [pM] at h;by_cases c0:(tk ts E i).1≠4
   ·rw [if_pos c0] at h;cases h
   rw [if_neg c0] at h;by_cases c1:(tk ts E i).2.2.1∈ns
   ·rw [if_pos c1] at h;cases h
   rw [if_neg c1] at h;by_cases c2:isM (tk ts E (i+1)) 58=false
   ·rw [if_pos c2] at h;cases h
   rw [if_neg c2] at h;have hn2:(ns++[(tk ts E i).2.2.1]).Nodup:=by
    rw [List.nodup_append];refine ⟨hn,by simp,?_⟩;intro a ha b hb e;simp at hb;subst hb e;exact c1 ha
   rcases hv:pV ts E f (d+1) (i+1+1) p with ⟨a,y⟩ | ⟨v,j1,q1⟩
   ·rw [hv] at h;cases h
   ·rw [hv] at h;simp only at h;obtain ⟨b1,b2,b3,b4,b5,b6⟩:=iV (d+1) (i+1+1) p v j1 q1 hv hp;by_cases c3:isM (tk ts E j1) 125=true
    ·rw [if_pos c3] at h;cases h;have:=qbJ c3;refine ⟨by omega,by omega,by rw [bu,bu];omega,b4,by rw [dpL,dpL];omega,⟨b6,trivial⟩,rfl,hn2,by simp⟩
    ·rw [if_neg c3] at h;by_cases c4:isM (tk ts E j1) 44=true
     ·rw [if_pos c4] at h;obtain ⟨u,h1,rfl⟩:=qga h;obtain ⟨a1,a2,a3,a4,a5,a6,a7,a8,_⟩:=iM d (j1+1) q1 _ u j q h1 b4 hn2;refine ⟨by omega,a2,by simp only [bu];omega,a4,by simp only [dpL];omega,⟨b6,a6⟩,by simp only [List.length_cons];omega,by simpa using a8,by simp⟩
     ·rw [if_neg c4] at h;cases h
def gL (ts:List Tok) (E:Int) (f d j q:Nat) (first:Bool):Rs (List V):=
 if isM (tk ts E j) 93=true then .ok [] (j+1) q else if first=true then pL ts E f d j q
 else if isM (tk ts E j) 44=true then pL ts E f d (j+1) q else .bad (tk ts E j).2.2.2 50
def gM (ts:List Tok) (E:Int) (f d j q:Nat) (ns:List (List UInt8)) (first:Bool):Rs (List (List UInt8)×List V):=
 if isM (tk ts E j) 125=true then .ok ([],[]) (j+1) q else if first=true then pM ts E f d j q ns
 else if isM (tk ts E j) 44=true then pM ts E f d (j+1) q ns else .bad (tk ts E j).2.2.2 50
theorem Rs.map_map {α β γ : Type} (r:Rs α) (f : α → β) (g : β → γ):(r.map f).map g=r.map fun x=>g (f x):=by cases r <;> rfl
theorem Rs.map_id {α : Type} (r:Rs α):(r.map fun x=>x)=r:=by cases r <;> rfl
theorem Rs.map_congr {α β : Type} {f g : α → β} (r:Rs α) (h:∀ x,f x=g x):r.map f=r.map g:=by rw [funext h]
theorem qti {ts:List Tok} {E:Int} {f d i p:Nat} {a y:Int} (h:pV ts E f (d+1) i p = .bad a y):pL ts E (f+1) d i p = .bad a y:=by rw [pL,h]
theorem qt2 {ts:List Tok} {E:Int} {f d i p j q:Nat} {v:V} (h:pV ts E f (d+1) i p = .ok v j q):pL ts E (f+1) d i p=(gL ts E f d j q false).map fun l=>v::l:=by
 rw [pL,h];simp only;unfold gL;by_cases c1:isM (tk ts E j) 93=true
 ·rw [if_pos c1,if_pos c1];rfl
 ·rw [if_neg c1,if_neg c1,if_neg (show ¬(false=true) by decide)];by_cases c2:isM (tk ts E j) 44=true
  ·rw [if_pos c2,if_pos c2]
  ·rw [if_neg c2,if_neg c2];rfl
theorem qqg {ts:List Tok} {E:Int} {f d i p j q:Nat} {v:V} (acc:List V) (h:pV ts E f (d+1) i p = .ok v j q) :
  (pL ts E (f+1) d i p).map (fun l=>acc++l)=(gL ts E f d j q false).map fun l=>(acc++[v])++l:=by
 rw [qt2 h,Rs.map_map];exact Rs.map_congr _ fun x=>by simp
theorem qrS {ts:List Tok} {E:Int} {f d i p:Nat} {ns:List (List UInt8)} {a y:Int} (h4:(tk ts E i).1=4) (hn:(tk ts E i).2.2.1∉ns) (hc:isM (tk ts E (i+1)) 58=true)
  (h:pV ts E f (d+1) (i+1+1) p = .bad a y):pM ts E (f+1) d i p ns = .bad a y:=by
 rw [pM,if_neg (by omega),if_neg hn,if_neg (by rw [hc];decide),h]
theorem qt9 {ts:List Tok} {E:Int} {f d i p j q:Nat} {ns:List (List UInt8)} {v:V} (h4:(tk ts E i).1=4) (hn:(tk ts E i).2.2.1∉ns) (hc:isM (tk ts E (i+1)) 58=true)
  (h:pV ts E f (d+1) (i+1+1) p = .ok v j q):pM ts E (f+1) d i p ns=(gM ts E f d j q (ns++[(tk ts E i).2.2.1]) false).map fun x=>((tk ts E i).2.2.1::x.1,v::x.2):=by
 rw [pM,if_neg (by omega),if_neg hn,if_neg (by rw [hc];decide),h];simp only;unfold gM;by_cases c1:isM (tk ts E j) 125=true
 ·rw [if_pos c1,if_pos c1];rfl
 ·rw [if_neg c1,if_neg c1,if_neg (show ¬(false=true) by decide)];by_cases c2:isM (tk ts E j) 44=true
  ·rw [if_pos c2,if_pos c2]
  ·rw [if_neg c2,if_neg c2];rfl
theorem qqt {ts:List Tok} {E:Int} {f d i p j q:Nat} {ns:List (List UInt8)} {v:V} (an:List (List UInt8)) (av:List V) (h4:(tk ts E i).1=4) (hn:(tk ts E i).2.2.1∉ns) (hc:isM (tk ts E (i+1)) 58=true)
  (h:pV ts E f (d+1) (i+1+1) p = .ok v j q) :
  (pM ts E (f+1) d i p ns).map (fun x=>(an++x.1,av++x.2))=(gM ts E f d j q (ns++[(tk ts E i).2.2.1]) false).map fun x=>((an++[(tk ts E i).2.2.1])++x.1,(av++[v])++x.2):=by
 rw [qt9 h4 hn hc h,Rs.map_map];exact Rs.map_congr _ fun x=>by simp
theorem qrY {ts:List Tok} {E:Int} {f d i p:Nat} {ns:List (List UInt8)} (h4:(tk ts E i).1≠4):pM ts E (f+1) d i p ns = .bad (tk ts E i).2.2.2 50:=by rw [pM,if_pos h4]
theorem qnU {ts:List Tok} {E:Int} {f d i p:Nat} {ns:List (List UInt8)} (h4:(tk ts E i).1=4) (hn:(tk ts E i).2.2.1∈ns):pM ts E (f+1) d i p ns = .bad (tk ts E i).2.2.2 52:=by
 rw [pM,if_neg (by omega),if_pos hn]
theorem qow {ts:List Tok} {E:Int} {f d i p:Nat} {ns:List (List UInt8)} (h4:(tk ts E i).1=4) (hn:(tk ts E i).2.2.1∉ns) (hc:isM (tk ts E (i+1)) 58=false):pM ts E (f+1) d i p ns = .bad (tk ts E (i+1)).2.2.2 50:=by
 rw [pM,if_neg (by omega),if_neg hn,if_pos hc]
theorem qpT {ts:List Tok} {E:Int} {f d i p:Nat} (h1:qcO (tk ts E i)=false) (h2:¬16<d) (h3:p≠8192) (h4:(tk ts E i).1=1) (h5:(tk ts E i).2.2.1=[91]) :
  pV ts E (f+1) d i p=(gL ts E f d (i+1) (p+1) true).map lsV:=by
 rw [pV,if_neg (by rw [h1];decide),if_neg h2,if_neg h3,if_neg (by omega),if_neg (by omega),if_neg (by omega),if_pos h5];unfold gL;by_cases c1:isM (tk ts E (i+1)) 93=true
 ·rw [if_pos c1,if_pos c1];rfl
 ·rw [if_neg c1,if_neg c1,if_pos rfl]
theorem qs4 {ts:List Tok} {E:Int} {f d i p:Nat} (h1:qcO (tk ts E i)=false) (h2:¬16<d) (h3:p≠8192) (h4:(tk ts E i).1=1) (h5:(tk ts E i).2.2.1≠[91]) :
  pV ts E (f+1) d i p=(gM ts E f d (i+1) (p+1) [] true).map mpV:=by
 rw [pV,if_neg (by rw [h1];decide),if_neg h2,if_neg h3,if_neg (by omega),if_neg (by omega),if_neg (by omega),if_neg h5];unfold gM;by_cases c1:isM (tk ts E (i+1)) 125=true
 ·rw [if_pos c1,if_pos c1];rfl
 ·rw [if_neg c1,if_neg c1,if_pos rfl]
end Re
namespace Sc
open Utf Nu
open Ch (bW qb2 eX aN eh el qbL)
def qtA (c:Int):Prop:=isD c=false∧c≠46∧c≠101∧c≠69∧qc8 c=false
end Sc
namespace Re
open Utf Sc
end Re
namespace Em
open Utf Sc Re Nu
open Ch (qbL qgH)
def okS (s:List UInt8):Prop:=(dj s).2=s.length
instance (s:List UInt8):Decidable (okS s):=by unfold okS;infer_instance
def qan (ns:List (List UInt8)):Prop:=ns.length≤8192→(∀ x∈ns,okS x)∧ns.Nodup
instance (ns:List (List UInt8)):Decidable (qan ns):=by unfold qan;infer_instance
def own (k n:Int) (s:List UInt8) (a:Nat) (ns:List (List UInt8)) (b:Nat):Prop:=
 ((1≤k∧k≤6)∧((k≠2∧k≠3)→n=0)∧(k≠4→s=[])∧(k≠5→a=0)∧(k≠6→b=0))∧
  (k=2→n=0∨n=1)∧(k=3→ -9007199254740991≤n∧n≤9007199254740991)∧(k=4→okS s)∧(k=6→qan ns)
instance (k n:Int) (s:List UInt8) (a:Nat) (ns:List (List UInt8)) (b:Nat):Decidable (own k n s a ns b):=by unfold own;infer_instance
def qt (s:List UInt8):List UInt8:=34::(qbL s++[34])
mutual
/-- a value's text -/
def emV:V→List UInt8
 | .mk k n s l ns ms=>if k=1 then dy else if k=2 then (if n=1 then da else qal) else if k=3 then qbi n else if k=4 then qt s
  else if k=5 then 91::((emT l).drop 1++[93]) else 123::((emM ns ms).drop 1++[125])
/-- the texts of values, each with a comma ahead -/
def emT:List V→List UInt8
 | []=>[]
 | v::r=>44::(emV v++emT r)
/-- the texts of members, each with a comma ahead -/
def emM:List (List UInt8)→List V→List UInt8
 | _,[]=>[]
 | ns,v::r=>44::(qt (ns.headD [])++58::(emV v++emM ns.tail r))
end
mutual
/-- how many values are right from one on, with those ahead; and why no more -/
def wk:V→Nat→Nat→Nat×Int
 | .mk k n s l ns ms,d,p=>if 16<d then (p,51) else if p=8192 then (p,53) else if own k n s l.length ns ms.length then
   (if (wkL l (d+1) (p+1)).2≠0 then wkL l (d+1) (p+1) else wkL ms (d+1) (wkL l (d+1) (p+1)).1) else (p,1)
def wkL:List V→Nat→Nat→Nat×Int
 | [],_,p=>(p,0)
 | v::r,d,p=>if (wk v d p).2≠0 then wk v d p else wkL r d (wk v d p).1
end
mutual
/-- is each value right by itself? -/
def d7:V→Prop
 | .mk k n s l ns ms=>own k n s l.length ns ms.length∧cO l∧cO ms
def cO:List V→Prop
 | []=>True
 | v::r=>d7 v∧cO r
end
mutual
/-- can each value be written? -/
def okW:V→Prop
 | .mk k n s l ns ms=>own k n s l.length ns ms.length∧(∀ x∈ns,okS x)∧dC l∧dC ms
def dC:List V→Prop
 | []=>True
 | v::r=>okW v∧dC r
end
mutual
/-- a value for each name -/
def aZ:V→Prop
 | .mk _ _ _ l ns ms=>ns.length=ms.length∧br l∧br ms
def br:List V→Prop
 | []=>True
 | v::r=>aZ v∧br r
end
mutual
/-- no map is too great -/
def qdP:V→Prop
 | .mk _ _ _ l ns ms=>ns.length≤8192∧eF l∧eF ms
def eF:List V→Prop
 | []=>True
 | v::r=>qdP v∧eF r
end
mutual
/-- how large a value is -/
def szU:V→Nat
 | .mk _ _ s l ns ms=>1+s.length+aL l+(ns.map fun x=>1+x.length).sum+aL ms
def aL:List V→Nat
 | []=>0
 | v::r=>szU v+aL r
end
mutual
theorem qn6:∀ (v:V) (d p:Nat),p≤8192→(wk v d p).1≤8192∧((wk v d p).2=0∨(wk v d p).2=1∨(wk v d p).2=51∨(wk v d p).2=53)
 | .mk k n s l ns ms,d,p,hp=>by
  rw [wk];by_cases h1:16<d
  ·rw [if_pos h1];simp;omega
  rw [if_neg h1];by_cases h2:p=8192
  ·rw [if_pos h2];simp;omega
  rw [if_neg h2];by_cases h3:own k n s l.length ns ms.length
  ·rw [if_pos h3];have a:=qgv l (d+1) (p+1) (by omega);by_cases h4:(wkL l (d+1) (p+1)).2≠0
   ·rw [if_pos h4];exact a
   ·rw [if_neg h4];exact qgv ms (d+1) _ a.1
  ·rw [if_neg h3];simp;omega
theorem qgv:∀ (l:List V) (d p:Nat),p≤8192→(wkL l d p).1≤8192∧((wkL l d p).2=0∨(wkL l d p).2=1∨(wkL l d p).2=51∨(wkL l d p).2=53)
 | [],d,p,hp=>by rw [wkL];simp;omega
 | v::r,d,p,hp=>by
  rw [wkL];have a:=qn6 v d p hp;by_cases h4:(wk v d p).2≠0
  ·rw [if_pos h4];exact a
  ·rw [if_neg h4];exact qgv r d _ a.1
end
mutual
theorem qrs:∀ (v:V) (d p:Nat),p≤8192→(wk v d p).2=0→(wk v d p).1=p+cnt v∧p+cnt v≤8192∧dp v d≤16∧d7 v
 | .mk k n s l ns ms,d,p,hp=>by
  rw [wk];by_cases h1:16<d
  ·rw [if_pos h1];intro h;simp at h
  rw [if_neg h1];by_cases h2:p=8192
  ·rw [if_pos h2];intro h;simp at h
  rw [if_neg h2];by_cases h3:own k n s l.length ns ms.length
  ·rw [if_pos h3];by_cases h4:(wkL l (d+1) (p+1)).2≠0
   ·rw [if_pos h4];intro h;exact absurd h h4
   ·rw [if_neg h4];intro h;obtain ⟨a1,a2,a3,a4⟩:=qiZ l (d+1) (p+1) (by omega) (by simpa using h4);rw [a1] at h ⊢;obtain ⟨b1,b2,b3,b4⟩:=qiZ ms (d+1) (p+1+bu l) (by omega) h;rw [b1,cnt,dp,d7];exact ⟨by omega,by omega,by omega,h3,a4,b4⟩
  ·rw [if_neg h3];intro h;simp at h
theorem qiZ:∀ (l:List V) (d p:Nat),p≤8192→(wkL l d p).2=0→(wkL l d p).1=p+bu l∧p+bu l≤8192∧dpL l d≤16∧cO l
 | [],d,p,hp=>by rw [wkL,bu,dpL,cO];simp;omega
 | v::r,d,p,hp=>by
  rw [wkL];by_cases h4:(wk v d p).2≠0
  ·rw [if_pos h4];intro h;exact absurd h h4
  ·rw [if_neg h4];intro h;obtain ⟨a1,a2,a3,a4⟩:=qrs v d p hp (by simpa using h4);rw [a1] at h ⊢;obtain ⟨b1,b2,b3,b4⟩:=qiZ r d (p+cnt v) (by omega) h;rw [b1,bu,dpL,cO];exact ⟨by omega,by omega,by omega,a4,b4⟩
end
mutual
theorem qnj:∀ (v:V) (d p:Nat),(wk v d p).2=1→¬d7 v
 | .mk k n s l ns ms,d,p=>by
  rw [wk,d7];split
  ·intro h;simp at h
  split
  ·intro h;simp at h
  split
  ·rename_i h3
   split
   ·intro h ⟨_,a,_⟩;exact qcX l _ _ h a
   ·intro h ⟨_,_,b⟩;exact qcX ms _ _ h b
  ·rename_i h3;intro _ ⟨a,_⟩;exact h3 a
theorem qcX:∀ (l:List V) (d p:Nat),(wkL l d p).2=1→¬cO l
 | [],d,p=>by rw [wkL];intro h;simp at h
 | v::r,d,p=>by
  rw [wkL,cO];split
  ·intro h ⟨a,_⟩;exact qnj v _ _ h a
  ·intro h ⟨_,b⟩;exact qcX r _ _ h b
end
def chk (v:V):Int:=(wk v 1 0).2
theorem qav {v:V} (h:chk v=0):cnt v≤8192∧dp v 1≤16∧d7 v:=by
 obtain ⟨_,a,b,c⟩:=qrs v 1 0 (by omega) h;exact ⟨by omega,b,c⟩
mutual
theorem qaU:∀ v:V,aZ v→cnt v≤8192→qdP v
 | .mk k n s l ns ms,h,hc=>by
  rw [aZ] at h;rw [cnt] at hc;rw [qdP];have:=qj3 ms;exact ⟨by omega,qbG l h.2.1 (by omega),qbG ms h.2.2 (by omega)⟩
theorem qbG:∀ l:List V,br l→bu l≤8192→eF l
 | [],_,_=>by rw [eF];trivial
 | v::r,h,hc=>by
  rw [br] at h;rw [bu] at hc;rw [eF];exact ⟨qaU v h.1 (by omega),qbG r h.2 (by omega)⟩
theorem qj3:∀ l:List V,l.length≤bu l
 | []=>by simp
 | v::r=>by
  rw [bu,List.length_cons];have:=qj3 r;have:=qj0 v;omega
end
mutual
theorem qke:∀ v:V,qdP v→aZ v→(okW v↔d7 v)
 | .mk k n s l ns ms,h,hl=>by
  rw [qdP] at h;rw [aZ] at hl;rw [okW,d7,qdV l h.2.1 hl.2.1,qdV ms h.2.2 hl.2.2];refine ⟨fun ⟨a,_,b,c⟩=>⟨a,b,c⟩,fun ⟨a,b,c⟩=>⟨a,?_,b,c⟩⟩;by_cases hk:k=6
  ·exact (a.2.2.2.2 hk h.1).1
  ·have:=a.1.2.2.2.2 hk;have e:ns=[]:=List.eq_nil_of_length_eq_zero (by omega);subst e;intro x hx;cases hx
theorem qdV:∀ l:List V,eF l→br l→(dC l↔cO l)
 | [],_,_=>by rw [dC,cO]
 | v::r,h,hl=>by
  rw [eF] at h;rw [br] at hl;rw [dC,cO,qke v h.1 hl.1,qdV r h.2 hl.2]
end
theorem qpS {v:V} (h:chk v=0) (hl:aZ v):okW v:=(qke v (qaU v hl (qav h).1) hl).2 (qav h).2.2
theorem qeL (s:List UInt8):(qt s).length≤6*s.length+2:=by
 have:=qgH s;unfold qt;simp only [List.length_cons,List.length_append,List.length_nil];omega
mutual
theorem qf2:∀ v:V,aZ v→(emV v).length+1≤24*szU v
 | .mk k n s l ns ms,h=>by
  rw [aZ] at h;have a:=qjY l h.2.1;have b:=qkB ms ns h.1 h.2.2;have c:=qeL s;have d:=(qhP n).2;rw [emV,szU];split
  ·show 4+1≤_;omega
  split
  ·split
   ·show 4+1≤_;omega
   ·show 5+1≤_;omega
  split
  ·omega
  split
  ·omega
  split
  ·simp only [List.length_cons,List.length_append,List.length_drop,List.length_nil];omega
  ·simp only [List.length_cons,List.length_append,List.length_drop,List.length_nil];omega
theorem qjY:∀ l:List V,br l→(emT l).length≤24*aL l
 | [],_=>by rw [emT];simp
 | v::r,h=>by
  rw [br] at h;have a:=qf2 v h.1;have b:=qjY r h.2;rw [emT,aL];simp only [List.length_cons,List.length_append];omega
theorem qkB:∀ (ms:List V) (ns:List (List UInt8)),ns.length=ms.length→br ms→(emM ns ms).length≤24*((ns.map fun x=>1+x.length).sum+aL ms)
 | [],ns,_,_=>by rw [emM];simp
 | v::r,ns,hn,h=>by
  rw [br] at h;cases ns with
  | nil=>simp at hn
  | cons x ns=>
   have a:=qf2 v h.1;have b:=qkB r ns (by simpa using hn) h.2;have c:=qeL x;rw [emM,aL];simp only [List.length_cons,List.length_append,List.headD_cons,List.tail_cons,List.map_cons,List.sum_cons];omega
end
theorem qj8:∀ a b:List V,emT (a++b)=emT a++emT b:=by
 intro a b;induction a with
 | nil=>rfl
 | cons v r ih=>rw [List.cons_append,emT,emT,ih];simp
theorem qj2:∀ (a b:List V) (na nb:List (List UInt8)),na.length=a.length→emM (na++nb) (a++b)=emM na a++emM nb b:=by
 intro a b;induction a with
 | nil=>intro na nb h;obtain rfl:=List.eq_nil_of_length_eq_zero h;simp [emM]
 | cons v r ih=>
  intro na nb h;cases na with
  | nil=>simp at h
  | cons x na=>
   have:=ih na nb (by simpa using h);rw [List.cons_append,List.cons_append,emM,emM];simp [this]
theorem qnT (l:List V) (k:Nat) (h:k<l.length):emT (l.take (k+1))=emT (l.take k)++44::emV l[k]:=by
 rw [bZ l k h,qj8,emT,emT,List.append_nil]
theorem qm0 (ns:List (List UInt8)) (ms:List V) (k:Nat) (h:k<ms.length) (hn:k<ns.length) (hl:ns.length=ms.length) :
  emM (ns.take (k+1)) (ms.take (k+1))=emM (ns.take k) (ms.take k)++44::(qt ns[k]++58::emV ms[k]):=by
 rw [bZ ms k h,bZ ns k hn,qj2 _ _ _ _ (by simp [List.length_take];omega),emM,emM];simp
