/- Merged: UtfA. -/
import Derived.Test.YtofelafamfckiaaGreatDoorTt3
import Derived.Deep.QuietTactic
import Derived.BigQuiet
import Derived.WalkLawsBesides
import Derived.WalkSpells
set_option maxRecDepth 100000
set_option maxHeartbeats 1000000
namespace Go.Proofs.YtofelafamfckiaaGreatDoor
namespace Utf
open Go.RowKit
theorem bf (n:Int) (w:World):Calls Tryz.prog 119 #[.int .i32 n] w fun e w'=>e = .returned (.bool (aH n))∧w=w':=by
 go_enter Tryz.func119,Tryz.ntmps119;go_wp2
 all_goals
  go_ret;exact ⟨bM (by rw [Bool.eq_iff_iff];simp [aH];omega),rfl⟩
theorem qcl (n:Int) (w:World) (h0:0≤n) (h1:n≤2147483647):Calls Tryz.prog 121 #[.int .i32 n] w fun e w'=>e = .returned (.int .u8 (128+n % 64))∧w=w':=by
 have e1:=qmc n h0 h1;have e2:bits BinOp.or IntKind.u8 128 (n % 64)=128+n % 64:=u8_or128 _ (by omega) (by omega);have e3:n % 64 % 256=n % 64:=by omega
 go_enter Tryz.func121,Tryz.ntmps121;go_wp2;go_ret;exact ⟨rfl,rfl⟩
theorem qfP (s:ByteArray) (bs:Int) (n:Nat) (least:Int) (w:World) (hs:s.size≤maxLen) (hb0:0≤bs) (hb1:bs≤31) (hn0:2≤n) (hn1:n≤4) :
  Calls Tryz.prog 115 #[.string s,.int .i32 bs,.int .i64 n,.int .i32 least] w fun e w'=>
   e = .returned (.tuple #[.int .i32 (cg s.data.toList bs n least).1,.int .i64 (cg s.data.toList bs n least).2])∧w=w':=by
 unfold maxLen at hs;by_cases hl:s.size<n
 ·have hd:decide (s.size<n)=true:=by simpa using hl
  go_enter Tryz.func115,Tryz.ntmps115;go_wp2;go_ret2
  exact ⟨by rw [qfZ _ _ _ _ (by rw [af];exact hl)];rfl,rfl⟩
 ·have hd:decide (s.size<n)=false:=by simpa using hl
  go_enter Tryz.func115,Tryz.ntmps115;go_wp2;go_loop [1,10] (fun b i=>∃ k:Nat,k<n∧i = .int .i64 (k+1:Nat)∧b = .int .i32 (bq bs s.data.toList k)∧bT s.data.toList k=true) (fun _ i=>n-(intOf i).toNat)
  case atStart=>exact ⟨0,by omega,by go_num,rfl,rfl⟩
  case round=>
   obtain ⟨k,hk,rfl,rfl,hcont⟩:=hrel;have HC:=zh hcont;clear hcont;have a0:=qkp bs s.data.toList hb0 k;have a1:=qj2 bs s.data.toList hb1 k (by omega);by_cases hlt:k+1<n
   ·have hd1:decide (k+1<n)=true:=by simpa using hlt
    have hlt2:k+1<s.size:=by omega
    have g:=aY s (k+1) hlt2;have G:=zh g;have g0:=qaj s.data.toList (k+1);have g1:=qcF s.data.toList (k+1);have t1:=qhJ _ g0 g1;have t2:bits .and .u8 (byt s.data.toList (k+1)) 63=byt s.data.toList (k+1) % 64:=u8_and63 _ g0 (by omega);rw [g] at t1 t2 g0 g1;clear g;by_cases hc:(s[k+1].toNat:Int) / 64=2
    ·have t3:decide ((s[k+1].toNat:Int) / 64=2)=true:=by simpa using hc
     have H3:=zh hc;clear hc;go_wp2;go_round
     case rel=>exact ⟨k+1,hlt,by go_num,by rw [bq,G.out],by rw [bT,HC.out,G.out,t3];rfl⟩
     case measure=>simp [intOf];omega
    ·have t3:decide ((s[k+1].toNat:Int) / 64=2)=false:=by simpa using hc
     have H3:=zh hc;clear hc;go_wp2;go_ret2
     exact ⟨by rw [qg2 _ _ _ _ (by rw [af];exact hl) (k+1) (by omega) (by rw [bT,G.out,t3];simp)];rfl,rfl⟩
   ·have hd1:decide (k+1<n)=false:=by simpa using hlt
    obtain rfl:n=k+1:=by omega
    by_cases h1:bq bs s.data.toList k<least
    ·have h1d:decide (bq bs s.data.toList k<least)=true:=by simpa using h1
     go_wp2_with (go_at_call 119;refine (bf _ _).mono ?_;rintro e w' ⟨rfl,rfl⟩)
     go_ret2
     exact ⟨by rw [qeO _ _ _ _ (.inl h1)];rfl,rfl⟩
    ·have h1d:decide (bq bs s.data.toList k<least)=false:=by simpa using h1
     by_cases h2:aH (bq bs s.data.toList k)=true
     ·go_wp2_with (go_at_call 119;refine (bf _ _).mono ?_;rintro e w' ⟨rfl,rfl⟩)
      go_ret2
      exact ⟨by rw [qkJ _ _ _ _ (by rw [af];exact hl) HC.out (by omega) h2];rfl,rfl⟩
     ·have h2':aH (bq bs s.data.toList k)=false:=by simpa using h2
      clear h2;go_wp2_with (go_at_call 119;refine (bf _ _).mono ?_;rintro e w' ⟨rfl,rfl⟩)
      go_ret2
      exact ⟨by rw [qeO _ _ _ _ (.inr h2')];rfl,rfl⟩
theorem qf9 (s:ByteArray) (bs n least:Int) (w:World) (hs:s.size≤maxLen) (hb0:0≤bs) (hb1:bs≤31) (hn0:2≤n) (hn1:n≤4) :
  Calls Tryz.prog 115 #[.string s,.int .i32 bs,.int .i64 n,.int .i32 least] w fun e w'=>
   e = .returned (.tuple #[.int .i32 (cg s.data.toList bs n.toNat least).1,.int .i64 (cg s.data.toList bs n.toNat least).2])∧w=w':=by
 obtain ⟨k,rfl⟩:=Int.eq_ofNat_of_zero_le (show 0≤n by omega);exact qfP s bs k least w hs hb0 hb1 (by omega) (by omega)
theorem qgM (s:ByteArray) (p:Int) (w:World) (hs:s.size≤maxLen) :
  Calls Tryz.prog 104 #[.string s,.int .i64 p] w fun e w'=>
   e = .returned (.tuple #[.int .i32 (qg1 s.data.toList p).1,.int .i64 (qg1 s.data.toList p).2])∧w=w':=by
 have hs':=hs;unfold maxLen at hs;by_cases h0:p<0
 ·have hd:decide (p<0)=true:=by simpa using h0
  go_enter Tryz.func104,Tryz.ntmps104;go_wp2;go_ret2
  exact ⟨by rw [qeU _ _ (.inl h0)];rfl,rfl⟩
 ·obtain ⟨q,rfl⟩:=Int.eq_ofNat_of_zero_le (Int.not_lt.mp h0);by_cases h1:q<s.size
  ·have g:=aY s q h1;have G:=zh g;have g0:=qaj s.data.toList q;have g1:=qcF s.data.toList q;have t1:bits .and .u8 (byt s.data.toList q) 31=byt s.data.toList q % 32:=u8_and31 _ g0 (by omega);have t2:bits .and .u8 (byt s.data.toList q) 15=byt s.data.toList q % 16:=u8_and15 _ g0 (by omega);have t3:bits .and .u8 (byt s.data.toList q) 7=byt s.data.toList q % 8:=u8_and7 _ g0 (by omega);rw [g] at t1 t2 t3 g0 g1;clear g;have e0:=qdR s q h1;have hx:(s.data.toList.drop q).take (s.size-q)=s.data.toList.drop q:=List.take_of_length_le (by simp);have hxs:(s.extract q s.size).size≤maxLen:=by simp;omega
   have HXS:=zh hxs;clear hxs;have E0:=zh e0;clear e0;have HX:=zh hx;clear hx;go_enter Tryz.func104,Tryz.ntmps104;go_wp2_with (go_at_call 115;refine (qf9 _ _ _ _ _ HXS.out (by omega) (by omega) (by omega) (by omega)).mono ?_;rintro e w' ⟨rfl,rfl⟩)
   all_goals go_ret2
   ·exact ⟨by rw [E0.out,qlt _ _ _ h1 G.out (by omega)];rfl,rfl⟩
   ·exact ⟨by rw [E0.out,qlx _ _ _ h1 G.out (by omega) (by omega)];rfl,rfl⟩
   ·exact ⟨by rw [E0.out,HX.out,qlO _ _ _ h1 G.out (by omega) (by omega)];rfl,rfl⟩
   ·exact ⟨by rw [E0.out,HX.out,qlu _ _ _ h1 G.out (by omega) (by omega)];rfl,rfl⟩
   ·exact ⟨by rw [E0.out,HX.out,qlW _ _ _ h1 G.out (by omega) (by omega)];rfl,rfl⟩
   ·exact ⟨by rw [E0.out,qlc _ _ _ h1 G.out (by omega)];rfl,rfl⟩
  ·have hd:decide (q<s.size)=false:=by simpa using h1
   go_enter Tryz.func104,Tryz.ntmps104;go_wp2;go_ret2
   exact ⟨by rw [qeU _ _ (.inr (by rw [af];omega))];rfl,rfl⟩
theorem bw (v:Value) (xs:List Value) (n:Int) (B:Nat) (w:World) (hown:w.ownsRow B 5 1 v xs.length xs) (hB:B≤w.heap.size) (hr:xs.length+4≤140737488355328) :
  Calls Tryz.prog 117 #[v,.int .i32 n] w (bJ 5 B (xs++Lib.byteCells (enc n)) w):=by
 obtain ⟨i0,hi,hz0,hz1,hz2⟩:=info_parts bX;by_cases hp:aH n=true
 ·have h0:=qaT hp;have h1:=qai hp;have HP:=zh hp;by_cases c1:n<128
  ·have e1:n % 256=n:=by omega
   rw [b8,qba HP.out c1];go_enter Tryz.func117,Tryz.ntmps117;go_wp2_with (first | (go_at_call 119;refine (bf _ _).mono ?_;rintro e w' ⟨rfl,rfl⟩) | (go_at_call 121;refine (qcl _ _ (by omega) (by omega)).mono ?_;rintro e w' ⟨rfl,rfl⟩) | (at_builtin;refine wpList_append_own _ rfl _ _ 82 rfl B 5 i0 (.int .u8 0) 1 1 Tryz.underlying82 hi hz0 hz1 hz2 rfl (by decide) v xs.length xs rfl (hown.alloc _) ⟨w.heap.size,0,none⟩ 1 1 [.int .u8 n] rfl rfl (ba _ _ _) ?_ ?_ ?_ ?_ ?_;(intro u hu;simp at hu;rcases hu with rfl <;> rfl);(unfold maxLen;omega);omega;(simp;omega);intro v1 w1 hown1 hg1 _))
   go_ret;exact ⟨v1,rfl,by rw [List.length_append];exact hown1,((Below.refl B w).alloc hB _).grown hg1 (by simp;omega) (fun k hk=>(hown.lt k hk).1)⟩
  ·by_cases c2:n<2048
   ·have e1:n / 64 % 256=n / 64:=by omega
    have e2:bits BinOp.or IntKind.u8 192 (n / 64)=192+n / 64:=u8_or192 _ (by omega) (by omega);rw [b8,qeD HP.out (by omega) c2];go_enter Tryz.func117,Tryz.ntmps117;go_wp2_with (first | (go_at_call 119;refine (bf _ _).mono ?_;rintro e w' ⟨rfl,rfl⟩) | (go_at_call 121;refine (qcl _ _ (by omega) (by omega)).mono ?_;rintro e w' ⟨rfl,rfl⟩) | (at_builtin;refine wpList_append_own _ rfl _ _ 82 rfl B 5 i0 (.int .u8 0) 1 1 Tryz.underlying82 hi hz0 hz1 hz2 rfl (by decide) v xs.length xs rfl (hown.alloc _) ⟨w.heap.size,0,none⟩ 2 2 [.int .u8 (192+n / 64),.int .u8 (128+n % 64)] rfl rfl (ba _ _ _) ?_ ?_ ?_ ?_ ?_;(intro u hu;simp at hu;rcases hu with rfl | rfl <;> rfl);(unfold maxLen;omega);omega;(simp;omega);intro v1 w1 hown1 hg1 _))
    go_ret;exact ⟨v1,rfl,by rw [List.length_append];exact hown1,((Below.refl B w).alloc hB _).grown hg1 (by simp;omega) (fun k hk=>(hown.lt k hk).1)⟩
   ·by_cases c3:n<65536
    ·have e1:n / 4096 % 256=n / 4096:=by omega
     have e2:bits BinOp.or IntKind.u8 224 (n / 4096)=224+n / 4096:=u8_or224 _ (by omega) (by omega);rw [b8,qdX HP.out (by omega) c3];go_enter Tryz.func117,Tryz.ntmps117;go_wp2_with (first | (go_at_call 119;refine (bf _ _).mono ?_;rintro e w' ⟨rfl,rfl⟩) | (go_at_call 121;refine (qcl _ _ (by omega) (by omega)).mono ?_;rintro e w' ⟨rfl,rfl⟩) | (at_builtin;refine wpList_append_own _ rfl _ _ 82 rfl B 5 i0 (.int .u8 0) 1 1 Tryz.underlying82 hi hz0 hz1 hz2 rfl (by decide) v xs.length xs rfl (hown.alloc _) ⟨w.heap.size,0,none⟩ 3 3 [.int .u8 (224+n / 4096),.int .u8 (128+n / 64 % 64),.int .u8 (128+n % 64)] rfl rfl (ba _ _ _) ?_ ?_ ?_ ?_ ?_;(intro u hu;simp at hu;rcases hu with rfl | rfl | rfl <;> rfl);(unfold maxLen;omega);omega;(simp;omega);intro v1 w1 hown1 hg1 _))
     go_ret;exact ⟨v1,rfl,by rw [List.length_append];exact hown1,((Below.refl B w).alloc hB _).grown hg1 (by simp;omega) (fun k hk=>(hown.lt k hk).1)⟩
    ·have e1:n / 262144 % 256=n / 262144:=by omega
     have e2:bits BinOp.or IntKind.u8 240 (n / 262144)=240+n / 262144:=u8_or240 _ (by omega) (by omega);rw [b8,qd1 HP.out (by omega)];go_enter Tryz.func117,Tryz.ntmps117;go_wp2_with (first | (go_at_call 119;refine (bf _ _).mono ?_;rintro e w' ⟨rfl,rfl⟩) | (go_at_call 121;refine (qcl _ _ (by omega) (by omega)).mono ?_;rintro e w' ⟨rfl,rfl⟩) | (at_builtin;refine wpList_append_own _ rfl _ _ 82 rfl B 5 i0 (.int .u8 0) 1 1 Tryz.underlying82 hi hz0 hz1 hz2 rfl (by decide) v xs.length xs rfl (hown.alloc _) ⟨w.heap.size,0,none⟩ 4 4 [.int .u8 (240+n / 262144),.int .u8 (128+n / 4096 % 64),.int .u8 (128+n / 64 % 64),.int .u8 (128+n % 64)] rfl rfl (ba _ _ _) ?_ ?_ ?_ ?_ ?_;(intro u hu;simp at hu;rcases hu with rfl | rfl | rfl | rfl <;> rfl);(unfold maxLen;omega);omega;(simp;omega);intro v1 w1 hown1 hg1 _))
     go_ret;exact ⟨v1,rfl,by rw [List.length_append];exact hown1,((Below.refl B w).alloc hB _).grown hg1 (by simp;omega) (fun k hk=>(hown.lt k hk).1)⟩
 ·have hp':aH n=false:=by simpa using hp
  clear hp;go_enter Tryz.func117,Tryz.ntmps117;go_wp2_with (go_at_call 119;refine (bf _ _).mono ?_;rintro e w' ⟨rfl,rfl⟩)
  go_ret;rw [qme hp'];exact ⟨v,rfl,by simpa [Lib.byteCells] using hown,Below.refl _ _⟩
theorem qcj (n:Int) (w:World):Calls Tryz.prog 108 #[.int .i32 n] w (qdo (.string (ae (enc n))) w):=by
 go_enter Tryz.func108,Tryz.ntmps108;go_wp2_with fail;refine (bw _ [] n w.heap.size w (World.ownsRow_nil _ _ _ _) (Nat.le_refl _) (by decide)).mono ?_;rintro e w1 ⟨v1,rfl,hown1,hb1⟩;rw [List.nil_append] at hown1;have hc:=(Rd.of_own hown1).conv (P:=Tryz.prog) Tryz.underlying82 Tryz.underlying5 Tryz.underlying9
 go_wp2;go_ret;exact ⟨rfl,hb1⟩
theorem qiG (s:ByteArray) (k:Nat) (p n:Int) (w:World) (hs:s.size≤maxLen) (hk:k<s.size) (h:Hid (ao (s.data.toList.drop k)=(p,n))) :
  Calls Tryz.prog 104 #[.string s,.int .i64 k] w fun e w'=>e = .returned (.tuple #[.int .i32 p,.int .i64 n])∧w=w':=by
 have:=qgM s k w hs;rw [qdR s k hk,h.out] at this;exact this
theorem qf5 {l:List UInt8} {p n:Int} (h:ao l=(p,n)):0≤p∧p≤1114111∧0≤n∧n≤4∧n≤l.length:=by
 rcases qat l with h1 | ⟨h1,h2,h3,h4⟩
 ·rw [h] at h1;have a:=congrArg Prod.fst h1;have b:=congrArg Prod.snd h1;simp at a b;omega
 ·rw [h] at h1 h2 h3 h4;have a:=qaT h1;have b:=qai h1;simp at a b h2 h3 h4;omega
theorem qgI (s:ByteArray) (w:World) (hs:s.size≤maxLen):Calls Tryz.prog 91 #[.string s] w fun e w'=>e = .returned (.int .i64 (bU s.data.toList).2)∧w=w':=by
 have hs':=hs;have HS:=zh hs;clear hs;unfold maxLen at hs';go_enter Tryz.func91,Tryz.ntmps91;go_wp2;go_loop [3,4,5] (fun a _ _=>∃ k:Nat,k≤s.size∧a = .int .i64 k∧(bU s.data.toList).2=k+(bU (s.data.toList.drop k)).2) (fun a _ _=>s.size-(intOf a).toNat)
 case atStart=>exact ⟨0,by omega,rfl,by simp⟩
 case round=>
  obtain ⟨k,hk,rfl,he⟩:=hrel;have HE:=zh he;clear he;by_cases hlt:k<s.size
  ·rcases hO:ao (s.data.toList.drop k) with ⟨p,n⟩;obtain ⟨b1,b2,b3,b4,b5⟩:=qf5 hO;rw [List.length_drop,af] at b5;have HO:=zh hO;clear hO;by_cases hn:n=0
   ·subst hn;go_wp2_with (go_at_call 104;refine (qiG _ _ _ _ _ HS.out hlt HO).mono ?_;rintro e w' ⟨rfl,rfl⟩)
    go_ret;exact ⟨by rw [HE.out,qdn (by rw [HO.out])];rfl,rfl⟩
   ·have hnb:(n==0)=false:=by simpa using hn
    obtain ⟨m,rfl⟩:=Int.eq_ofNat_of_zero_le b3;have hne:Hid (¬((m:Int)=0)):=hn;clear hn;go_wp2_with (go_at_call 104;refine (qiG _ _ _ _ _ HS.out hlt HO).mono ?_;rintro e w' ⟨rfl,rfl⟩)
    go_round
    case rel=>exact ⟨k+m,by omega,by go_num,by rw [HE.out,qea (by rw [HO.out];exact hne.out),HO.out,List.drop_drop];simp;omega⟩
    case measure=>have:=hne.out;simp [intOf];omega
  ·have hd:decide (k<s.size)=false:=by simpa using hlt
   obtain rfl:k=s.size:=by omega
   go_wp2;go_ret;exact ⟨by rw [HE.out,List.drop_of_length_le (by rw [af];exact Nat.le_refl _)];rfl,rfl⟩
