/- Merged: WoA WoB WoC WoD WoE ReMem EmPl2 ReAw0. -/
import Derived.IntWalk
import Derived.Shelf.Abstract
import Derived.Deep.LoopGhost
import Derived.Test.YtnecfkhbncepnaaGreatDoorTt9
set_option maxRecDepth 100000
set_option maxHeartbeats 1000000
namespace Go.Proofs.YtnecfkhbncepnaaGreatDoor
namespace Wo
open Go.Proofs Go.RowKit Utf Nu
theorem qbU (b:Int) (w:World):Calls Tryz.prog 142 #[.int .u8 b] w fun e w'=>e = .returned (.bool (ltr b))∧w=w':=by
 go_enter Tryz.func142,Tryz.ntmps142;go_wp2
 all_goals
  go_ret;exact ⟨aW (by rw [Bool.eq_iff_iff];simp [ltr];omega),rfl⟩
theorem qaI (b:Int) (w:World):Calls Tryz.prog 146 #[.int .u8 b] w fun e w'=>e = .returned (.bool (alB b))∧w=w':=by
 unfold alB;have HC:=zh (qbU b);generalize ltr b=x at *;cases x
 all_goals
  go_enter Tryz.func146,Tryz.ntmps146;go_wp2_with (go_at_call 142;refine (HC.out _).mono ?_;rintro e w' ⟨rfl,rfl⟩)
  all_goals
   go_ret;exact ⟨aW (by rw [Bool.eq_iff_iff];simp [isD];try omega),rfl⟩
theorem qdN (s:ByteArray) (c:Int) (w:World):Calls Tryz.prog 203 #[.string s,.int .u8 c] w fun e w'=>e = .returned (.int .i64 (Lib.indexByte s.data.toList c.toNat.toUInt8))∧w=w':=by
 go_enter Tryz.func203,Tryz.ntmps203;go_wp2;rw [run_callFunc_extern Tryz.func215 (by kernel_rfl) (by kernel_rfl) (by kernel_rfl) (e:=Extern.BytealgIndexByte.indexByte) (by kernel_rfl),Lib.run_indexByteString];simp only [Result.andThen];rw [Oper.upon_value];go_wp2;go_ret;exact ⟨rfl,rfl⟩
theorem qaH (s:ByteArray) (c:Int) (w:World):Calls Tryz.prog 180 #[.string s,.int .u8 c] w fun e w'=>e = .returned (.int .i64 (Lib.indexByte s.data.toList c.toNat.toUInt8))∧w=w':=by
 go_enter Tryz.func180,Tryz.ntmps180;go_wp2_with (go_at_call 203;refine (qdN _ _ _).mono ?_;rintro e w' ⟨rfl,rfl⟩)
 go_ret;exact ⟨rfl,rfl⟩
theorem qgk (s:ByteArray) (c:UInt8) (w:World):Calls Tryz.prog 183 #[.string s,.string ⟨#[c]⟩] w fun e w'=>e = .returned (.int .i64 (Lib.indexByte s.data.toList c))∧w=w':=by
 have hcc:((c.toNat:Int)).toNat.toUInt8=c:=by simp
 have HC:=zh (fun W=>hcc▸qdN s (c.toNat:Int) W);clear hcc;by_cases hs:([c]==s.toList)=true
 ·have he:s.data.toList=[c]:=by rw [←ByteArray.toList_eq];exact (beq_iff_eq.1 hs).symm
  have HE:=zh he;clear he;go_enter Tryz.func183,Tryz.ntmps183;go_wp2_with fail;go_ret;exact ⟨by rw [HE.out];simp [Lib.indexByte],rfl⟩
 ·have hs':([c]==s.toList)=false:=by simpa using hs
  clear hs;go_enter Tryz.func183,Tryz.ntmps183;go_wp2_with (go_at_call 203;refine (HC.out _).mono ?_;rintro e w' ⟨rfl,rfl⟩)
  go_ret;exact ⟨rfl,rfl⟩
theorem qtt {B:Nat} {a w:World} (h:Below B a w) (n:Nat):Below B a (w.drewN n):=⟨h.os,h.tape,h.output,h.size,h.block⟩
theorem qhi (s:ByteArray) (n:Nat):s.extract 0 n=aa (s.data.toList.take n):=by
 apply ByteArray.ext;rw [ByteArray.data_extract];apply Array.toList_inj.1;simp [aa]
theorem qiq (s:ByteArray) (n:Nat):s.extract n s.size=aa (s.data.toList.drop n):=by
 apply ByteArray.ext;rw [ByteArray.data_extract];apply Array.toList_inj.1;simp only [Array.toList_extract,List.extract,aa];exact List.take_of_length_le (by rw [List.length_drop,ac];exact Nat.le_refl _)
theorem qn9 (s:ByteArray) (c:UInt8) (w:World) (hs:s.size≤9223372036854775807):Calls Tryz.prog 154 #[.string s,.string ⟨#[c]⟩] w fun e w'=>
  e = .returned (.tuple #[.string (aa (hdP c s.data.toList)),.string (aa (tlP c s.data.toList)),.bool (decide (c∈s.data.toList))])∧∃ m,w'=w.drewN m:=by
 have HC:=zh (fun W=>qgk s c W);rcases qcU c s.data.toList with ⟨h1,h2⟩ | ⟨i,h1,h2,h3,h4,h5⟩
 ·rw [h1] at HC;rw [qcK h2,qbv h2,zF h2];clear h1 h2;go_enter Tryz.func154,Tryz.ntmps154;go_wp2_with (go_at_call 183;refine (HC.out _).mono ?_;rintro e w' ⟨rfl,rfl⟩)
  go_ret3
  exact ⟨by rfl,0,rfl⟩
 ·rw [h1] at HC;rw [ac] at h3;have HH:=zh (qhi s i);have HT:=zh (qiq s (i+1));rw [h4,h5,zT h2];have k0:(0:Int)≤(i:Int):=by omega
  have k1:(i:Int)≤(s.size:Int):=by omega
  have k2:((i:Int)).toNat=i:=by omega
  have k3:(0:Int)≤(i:Int)+1:=by omega
  have k4:(i:Int)+1≤(s.size:Int):=by omega
  have k5:((i:Int)+1).toNat=i+1:=by omega
  have t1:decide ((i:Int)≥0)=true:=decide_eq_true k0;clear h1 h2 h4 h5;go_enter Tryz.func154,Tryz.ntmps154;go_wp2_with (first | (go_at_call 183;refine (HC.out _).mono ?_;rintro e w' ⟨rfl,rfl⟩) | (go_quiet (fail)))
  go_ret3
  exact ⟨by rw [HH.out,HT.out];rfl,_,rfl⟩
theorem qrq (s:ByteArray) (c:UInt8) (w:World) (hs:s.size≤9223372036854775807):Calls Tryz.prog 91 #[.string s,.string ⟨#[c]⟩] w fun e w'=>
  e = .returned (.tuple #[.string (aa (hdP c s.data.toList)),.string (aa (tlP c s.data.toList)),.bool (decide (c∈s.data.toList))])∧∃ m,w'=w.drewN m:=by
 have HC:=zh (fun W=>qn9 s c W hs);generalize decide (c∈s.data.toList)=f at *;generalize aa (hdP c s.data.toList)=A at *;generalize aa (tlP c s.data.toList)=B at *;go_enter Tryz.func91,Tryz.ntmps91;go_wp2_with fail;refine (HC.out _).mono ?_;rintro e w1 ⟨rfl,m,rfl⟩;go_wp2_with fail;go_ret3
 exact ⟨by rfl,m,rfl⟩
theorem qdz (s:ByteArray) (c:UInt8) (w:World) (hs:s.size≤9223372036854775807):Calls Tryz.prog 91 #[.string s,.string ⟨#[c]⟩] w fun e w'=>
  e = .returned (.tuple #[.string (aa (hdP c s.data.toList)),.string (aa (tlP c s.data.toList)),.bool (decide (c∈s.data.toList))])∧Below w.heap.size w w':=
 (qrq s c w hs).mono fun e w' ⟨h1,m,h2⟩=>⟨h1,by rw [h2];exact qtt (Below.refl _ _) _⟩
theorem qoa {b:Int} (h0:0≤b) (h1:b≤255):decide (0≤Lib.indexByte [33,35,36,38,45,94,95,46,43] b.toNat.toUInt8)=decide (b=33∨b=35∨b=36∨b=38∨b=45∨b=94∨b=95∨b=46∨b=43):=by
 obtain ⟨n,rfl⟩:=Int.eq_ofNat_of_zero_le h0;have hn:n<256:=by omega
 rw [qgg];refine decide_eq_decide.2 ?_;simp only [Int.toNat_natCast,List.mem_cons,List.not_mem_nil,or_false,←UInt8.toNat_inj];have e:n.toUInt8.toNat=n:=by simp [Nat.mod_eq_of_lt hn]
 rw [e];simp only [show (33:UInt8).toNat=33 from rfl,show (35:UInt8).toNat=35 from rfl,show (36:UInt8).toNat=36 from rfl,show (38:UInt8).toNat=38 from rfl,show (45:UInt8).toNat=45 from rfl,show (94:UInt8).toNat=94 from rfl,show (95:UInt8).toNat=95 from rfl,show (46:UInt8).toNat=46 from rfl,show (43:UInt8).toNat=43 from rfl];omega
theorem ql7 {b:Int} (h0:0≤b) (h1:b≤255):decide (0≤Lib.indexByte [43,45,46] b.toNat.toUInt8)=decide (b=43∨b=45∨b=46):=by
 obtain ⟨n,rfl⟩:=Int.eq_ofNat_of_zero_le h0;have hn:n<256:=by omega
 rw [qgg];refine decide_eq_decide.2 ?_;simp only [Int.toNat_natCast,List.mem_cons,List.not_mem_nil,or_false,←UInt8.toNat_inj];have e:n.toUInt8.toNat=n:=by simp [Nat.mod_eq_of_lt hn]
 rw [e];simp only [show (45:UInt8).toNat=45 from rfl,show (46:UInt8).toNat=46 from rfl,show (43:UInt8).toNat=43 from rfl];omega
theorem qlX {b:Int} (h0:0≤b) (h1:b≤255):decide (0≤Lib.indexByte [34,60,62,92,94,96,123,124,125] b.toNat.toUInt8)=decide (b=34∨b=60∨b=62∨b=92∨b=94∨b=96∨b=123∨b=124∨b=125):=by
 obtain ⟨n,rfl⟩:=Int.eq_ofNat_of_zero_le h0;have hn:n<256:=by omega
 rw [qgg];refine decide_eq_decide.2 ?_;simp only [Int.toNat_natCast,List.mem_cons,List.not_mem_nil,or_false,←UInt8.toNat_inj];have e:n.toUInt8.toNat=n:=by simp [Nat.mod_eq_of_lt hn]
 rw [e];simp only [show (34:UInt8).toNat=34 from rfl,show (60:UInt8).toNat=60 from rfl,show (62:UInt8).toNat=62 from rfl,show (92:UInt8).toNat=92 from rfl,show (94:UInt8).toNat=94 from rfl,show (96:UInt8).toNat=96 from rfl,show (123:UInt8).toNat=123 from rfl,show (124:UInt8).toNat=124 from rfl,show (125:UInt8).toNat=125 from rfl];omega
theorem qeI (b:Int) (w:World) (h0:0≤b) (h1:b≤255):Calls Tryz.prog 181 #[.int .u8 b] w fun e w'=>e = .returned (.bool (nmB b))∧w=w':=by
 have HC:=zh (qaI b);have HD:=zh (fun W=>qaH ⟨#[33,35,36,38,45,94,95,46,43]⟩ b W);have HB:=zh (show nmB b=(alB b || decide (0≤Lib.indexByte [33,35,36,38,45,94,95,46,43] b.toNat.toUInt8)) by rw [qoa h0 h1];rfl);rw [HB.out];generalize alB b=x at *;have HE:=zh (show (⟨#[33,35,36,38,45,94,95,46,43]⟩:ByteArray).data.toList=[33,35,36,38,45,94,95,46,43] from rfl);rw [HE.out] at HD;generalize Lib.indexByte [33,35,36,38,45,94,95,46,43] b.toNat.toUInt8=y at *;cases x
 all_goals
  go_enter Tryz.func181,Tryz.ntmps181;go_wp2_with (first | (go_at_call 146;refine (HC.out _).mono ?_;rintro e w' ⟨rfl,rfl⟩) | (go_at_call 180;refine (HD.out _).mono ?_;rintro e w' ⟨rfl,rfl⟩))
  all_goals
   go_ret;exact ⟨aW (by simp),rfl⟩
theorem qcR (b:Int) (w:World) (h0:0≤b) (h1:b≤255):Calls Tryz.prog 143 #[.int .u8 b] w fun e w'=>e = .returned (.bool (qat b))∧w=w':=by
 have HC:=zh (qaI b);have HD:=zh (fun W=>qaH ⟨#[43,45,46]⟩ b W);have HB:=zh (show qat b=(alB b || decide (0≤Lib.indexByte [43,45,46] b.toNat.toUInt8)) by rw [ql7 h0 h1];rfl);rw [HB.out];generalize alB b=x at *;have HE:=zh (show (⟨#[43,45,46]⟩:ByteArray).data.toList=[43,45,46] from rfl);rw [HE.out] at HD;generalize Lib.indexByte [43,45,46] b.toNat.toUInt8=y at *;cases x
 all_goals
  go_enter Tryz.func143,Tryz.ntmps143;go_wp2_with (first | (go_at_call 146;refine (HC.out _).mono ?_;rintro e w' ⟨rfl,rfl⟩) | (go_at_call 180;refine (HD.out _).mono ?_;rintro e w' ⟨rfl,rfl⟩))
  all_goals
   go_ret;exact ⟨aW (by simp),rfl⟩
theorem qfe (b:Int) (w:World) (h0:0≤b) (h1:b≤255):Calls Tryz.prog 144 #[.int .u8 b] w fun e w'=>e = .returned (.bool (eY b))∧w=w':=by
 have HD:=zh (fun W=>qaH ⟨#[34,60,62,92,94,96,123,124,125]⟩ b W);have HB:=zh (show eY b=(decide (33≤b∧b≤126)&& !decide (0≤Lib.indexByte [34,60,62,92,94,96,123,124,125] b.toNat.toUInt8)) by rw [qlX h0 h1];rfl);rw [HB.out];have HE:=zh (show (⟨#[34,60,62,92,94,96,123,124,125]⟩:ByteArray).data.toList=[34,60,62,92,94,96,123,124,125] from rfl);rw [HE.out] at HD;generalize Lib.indexByte [34,60,62,92,94,96,123,124,125] b.toNat.toUInt8=y at *;go_enter Tryz.func144,Tryz.ntmps144;go_wp2_with (go_at_call 180;refine (HD.out _).mono ?_;rintro e w' ⟨rfl,rfl⟩)
 all_goals
  go_ret;exact ⟨aW (by rw [Bool.eq_iff_iff];simp;try omega),rfl⟩
def FnB (n:FuncId) (f:Int→Bool):Prop:=
 (∀ args w,(callFunc n args).run Tryz.prog w = .ok (.enter n args) w)∧∀ (b:Int) (w:World),0≤b→b≤255→Calls Tryz.prog n #[.int .u8 b] w fun e w'=>e = .returned (.bool (f b))∧w=w'
theorem qcA:FnB 142 ltr:=⟨enters_of Tryz.func142 (by kernel_rfl) rfl,fun b w _ _=>qbU b w⟩
theorem qeF:FnB 146 alB:=⟨enters_of Tryz.func146 (by kernel_rfl) rfl,fun b w _ _=>qaI b w⟩
theorem qpH:FnB 181 nmB:=⟨enters_of Tryz.func181 (by kernel_rfl) rfl,fun b w h0 h1=>qeI b w h0 h1⟩
theorem qle:FnB 143 qat:=⟨enters_of Tryz.func143 (by kernel_rfl) rfl,fun b w h0 h1=>qcR b w h0 h1⟩
theorem qf1:FnB 144 eY:=⟨enters_of Tryz.func144 (by kernel_rfl) rfl,fun b w h0 h1=>qfe b w h0 h1⟩
section
variable {f g:Int→Bool} {l:List UInt8}
theorem qte (h0:0<l.length) (h:f (byt l 0)=false):dc f g l=false:=by
 cases l with
 | nil=>rfl
 | cons x r=>
  show (f (x.toNat:Int)&&_)=false;rw [show (x.toNat:Int)=byt (x::r) 0 from rfl,h];rfl
theorem qs8 {k:Nat} (h0:1≤k) (h1:k<l.length) (h:g (byt l k)=false):dc f g l=false:=by
 cases l with
 | nil=>rfl
 | cons x r=>
  obtain ⟨j,rfl⟩:∃ j,k=j+1:=⟨k-1,by omega⟩
  have hj:j<r.length:=by simpa using h1
  rw [qiM h1] at h;show (_&&r.all fun y=>g (y.toNat:Int))=false;rw [List.all_eq_false.2 ⟨r[j],List.getElem_mem hj,by rw [show ((x::r)[j+1])=r[j] from rfl] at h;rw [h];simp⟩,Bool.and_false]
theorem qnJ (h0:0<l.length) (h:f (byt l 0)=true) (h2:∀ j,1≤j→j<l.length→g (byt l j)=true):dc f g l=true:=by
 cases l with
 | nil=>exact absurd h0 (by simp)
 | cons x r=>
  show (f (x.toNat:Int)&&r.all fun y=>g (y.toNat:Int))=true;rw [show (x.toNat:Int)=byt (x::r) 0 from rfl,h,Bool.true_and,List.all_eq_true];intro y hy;obtain ⟨j,hj,rfl⟩:=List.getElem_of_mem hy;have:=h2 (j+1) (by omega) (by simpa using hj);rwa [qiM (by simpa using hj)] at this
end
theorem qtk {s:ByteArray} (h:0<s.size):(s.toList==[])=false:=by
 rw [beq_eq_false_iff_ne,ByteArray.toList_eq];intro e;have h2:=congrArg List.length e;rw [ac] at h2;have h3:s.size=0:=h2;omega
theorem qpA {s:ByteArray} (h:s.size=0):(s.toList==[])=true:=by
 rw [beq_iff_eq,ByteArray.toList_eq];exact List.eq_nil_of_length_eq_zero (by rw [ac];exact h)
theorem eZ {n m:FuncId} {f g:Int→Bool} (hn:FnB n f) (hm:FnB m g) (s:ByteArray) (w:World) (hs:s.size≤9223372036854775807) :
  Calls Tryz.prog 141 #[.string s,.func (.func n) #[] #[],.func (.func m) #[] #[]] w fun e w'=>e = .returned (.bool (dc f g s.data.toList))∧w=w':=by
 have en:=hn.1;have em:=hm.1;have HN:=zh hn.2;have HM:=zh hm.2;clear hn hm;by_cases h0:s.size=0
 ·have t0:=qpA h0;have HE:=zh (show dc f g s.data.toList=false by
   rw [List.eq_nil_of_length_eq_zero (l:=s.data.toList) (by rw [ac];exact h0)];rfl)
  clear h0;go_enter Tryz.func141,Tryz.ntmps141;go_wp2_with fail;go_ret;exact ⟨by rw [HE.out];rfl,rfl⟩
 ·have hp:0<s.size:=by omega
  have t0:=qtk hp;have k0:(0:Int)<(s.size:Int):=by omega
  have HG0:=zh (be s 0 hp);have hc0:=HN.out (s[0].toNat:Int) w (by omega) (by have:=s[0].toNat_lt;omega);clear h0;cases hf:f (s[0].toNat:Int) with
  | false=>
   rw [hf] at hc0;have HE:=zh (qte (g:=g) (l:=s.data.toList) (by rw [ac];exact hp) (by rw [HG0.out];exact hf));have HC0:=zh hc0;clear hc0 hf;go_enter Tryz.func141,Tryz.ntmps141;go_wp2_with (go_at_fn n;refine HC0.out.mono ?_;rintro e w' ⟨rfl,rfl⟩)
   go_ret;exact ⟨by rw [HE.out];rfl,rfl⟩
  | true=>
   rw [hf] at hc0;have HF:=zh (show f (byt s.data.toList 0)=true by rw [HG0.out];exact hf);have HC0:=zh hc0;clear hc0 hf;go_enter Tryz.func141,Tryz.ntmps141;go_wp2_with (go_at_fn n;refine HC0.out.mono ?_;rintro e w' ⟨rfl,rfl⟩)
   go_loopw [7] (fun i wr=>∃ k:Nat,i = .int .i64 (k:Int)∧1≤k∧k≤s.size∧Aside (∀ j,1≤j→j<k→g (byt s.data.toList j)=true)∧Aside (w=wr)) (fun i _=>s.size-(intOf i).toNat)
   case atStart=>exact ⟨1,rfl,by omega,by omega,(show ∀ _ _ _,_ from fun j h1 h2=>by omega),(show _=_ from rfl)⟩
   case round=>
    obtain ⟨k,rfl,hk1,hk,hall,hw⟩:=hrel;have HA:=zh hall.out;have HW:=zh hw.out;clear hall hw;by_cases hlt:k<s.size
    ·have t1:decide ((k:Int)<(s.size:Int))=true:=zT (by omega);have t2:decide (k<s.size)=true:=zT hlt;have k0':(0:Int)≤(k:Int):=by omega
     have k1:(k:Int)<(s.size:Int):=by omega
     have k2:((k:Int)).toNat=k:=by omega
     have HGk:=zh (be s k hlt);have hck:=fun W=>HM.out (s[k].toNat:Int) W (by omega) (by have:=s[k].toNat_lt;omega);cases hg:g (s[k].toNat:Int) with
     | false=>
      rw [hg] at hck;have HE:=zh (qs8 (f:=f) (l:=s.data.toList) hk1 (by rw [ac];exact hlt) (by rw [HGk.out];exact hg));have HCK:=zh hck;clear hck hg;go_wp2_with (go_at_fn m;refine (HCK.out _).mono ?_;rintro e w' ⟨rfl,rfl⟩)
      go_ret;exact ⟨by rw [HE.out];rfl,HW.out⟩
     | true=>
      rw [hg] at hck;have HA2:=zh (show ∀ j,1≤j→j<k+1→g (byt s.data.toList j)=true from fun j h1 h2=>by
       by_cases hjk:j=k
       ·subst hjk;rw [HGk.out];exact hg
       ·exact HA.out j h1 (by omega))
      have HCK:=zh hck;clear hck hg;go_wp2_with (go_at_fn m;refine (HCK.out _).mono ?_;rintro e w' ⟨rfl,rfl⟩)
      go_roundw
      case rel=>exact ⟨k+1,by go_num,by omega,by omega,HA2.out,HW.out⟩
      case measure=>simp [intOf];omega
    ·have t1:decide ((k:Int)<(s.size:Int))=false:=zF (by omega);have t2:decide (k<s.size)=false:=zF hlt;have HE:=zh (qnJ (f:=f) (g:=g) (l:=s.data.toList) (by rw [ac];exact hp) HF.out (fun j h1 h2=>HA.out j h1 (by rw [ac] at h2;omega)));go_wp2_with fail;go_ret;exact ⟨by rw [HE.out];rfl,HW.out⟩
end Wo
namespace Wo
open Go.Proofs Go.RowKit Utf Nu
def Tl (x:Bool) (w:World) (e:Ending) (w':World):Prop:=e = .returned (.bool x)∧Below w.heap.size w w'
theorem qea (s:ByteArray) (w:World) (hs:s.size≤9223372036854775807):Calls Tryz.prog 145 #[.string s] w fun e w'=>e = .returned (.bool (nmS s.data.toList))∧w=w':=by
 have HC:=zh (fun W=>eZ qeF qpH s W hs);have HE:=zh (qub s.data.toList);rw [←HE.out,ac];generalize dc alB nmB s.data.toList=x at *;by_cases h:s.size≤127
 ·have t1:decide ((s.size:Int)≤127)=true:=zT (by omega);have t2:decide (s.size≤127)=true:=zT h;rw [t2];go_enter Tryz.func145,Tryz.ntmps145;go_wp2_with (go_at_call 141;refine (HC.out _).mono ?_;rintro e w' ⟨rfl,rfl⟩)
  go_ret;exact ⟨rfl,rfl⟩
 ·have t1:decide ((s.size:Int)≤127)=false:=zF (by omega);have t2:decide (s.size≤127)=false:=zF h;rw [t2];go_enter Tryz.func145,Tryz.ntmps145;go_wp2_with fail;go_ret;exact ⟨rfl,rfl⟩
theorem qgs (c:UInt8) {s:ByteArray} (hs:s.size≤9223372036854775807):(aa (hdP c s.data.toList)).size≤9223372036854775807:=by
 have:=qtR c s.data.toList;rw [ac] at this;rw [al];omega
theorem qkP (c:UInt8) {s:ByteArray} (hs:s.size≤9223372036854775807):(aa (tlP c s.data.toList)).size≤9223372036854775807:=by
 have:=qnW c s.data.toList;rw [ac] at this;rw [al];omega
theorem qqm (s:ByteArray) (w:World) (hs:s.size≤9223372036854775807):Calls Tryz.prog 83 #[.string s] w fun e w'=>e = .returned (.bool (dG s.data.toList))∧∃ m,w'=w.drewN m:=by
 have HC:=zh (fun W=>qrq s 47 W hs);have HE:=zh (qn3 s.data.toList);have HA:=zh (fun W=>qea (aa (hdP 47 s.data.toList)) W (qgs 47 hs));have HB:=zh (fun W=>qea (aa (tlP 47 s.data.toList)) W (qkP 47 hs));rw [aD] at HA HB;rw [←HE.out];generalize nmS (hdP 47 s.data.toList)=x at *;generalize nmS (tlP 47 s.data.toList)=y at *;generalize aa (hdP 47 s.data.toList)=A at *;generalize aa (tlP 47 s.data.toList)=B at *;generalize decide (47∈s.data.toList)=f at *;cases x
 all_goals
  go_enter Tryz.func83,Tryz.ntmps83;go_wp2_with fail;refine (HC.out _).mono ?_;rintro e w1 ⟨rfl,m,rfl⟩;go_wp2_with fail;refine (HA.out _).mono ?_;rintro e w2 ⟨rfl,rfl⟩;go_wp2_with (go_at_call 145;refine (HB.out _).mono ?_;rintro e w' ⟨rfl,rfl⟩)
  go_ret;exact ⟨rfl,m,rfl⟩
theorem qlk (s:ByteArray) (w:World) (hs:s.size≤9223372036854775807):Calls Tryz.prog 83 #[.string s] w (Tl (dG s.data.toList) w):=
 (qqm s w hs).mono fun e w' ⟨h1,m,h2⟩=>⟨h1,by rw [h2];exact qtt (Below.refl _ _) _⟩
theorem qqE (s:ByteArray) (w:World) (hs:s.size≤9223372036854775807):Calls Tryz.prog 82 #[.string s] w (Tl (qdS s.data.toList) w):=by
 have HC:=zh (fun W=>qdz s 58 W hs);have HE:=zh (qso s.data.toList);have HA:=zh (fun W=>eZ qcA qle (aa (hdP 58 s.data.toList)) W (qgs 58 hs));have HB:=zh (fun W=>eZ qf1 qf1 (aa (tlP 58 s.data.toList)) W (qkP 58 hs));rw [aD] at HA HB;rw [←HE.out];generalize dc ltr qat (hdP 58 s.data.toList)=x at *;generalize dc eY eY (tlP 58 s.data.toList)=y at *;generalize aa (hdP 58 s.data.toList)=A at *;generalize aa (tlP 58 s.data.toList)=B at *;generalize decide (58∈s.data.toList)=f at *;unfold Tl;cases x
 all_goals
  go_enter Tryz.func82,Tryz.ntmps82;go_wp2_with fail;refine (HC.out _).mono ?_;rintro e w1 ⟨rfl,hb⟩;have HBE:=zh hb;clear hb;go_wp2_with fail;refine (HA.out _).mono ?_;rintro e w2 ⟨rfl,rfl⟩;go_wp2_with (go_at_call 141;refine (HB.out _).mono ?_;rintro e w' ⟨rfl,rfl⟩)
  go_ret;exact ⟨rfl,HBE.out⟩
theorem qfy (l:List UInt8):((aa l).toList != [])=decide (l≠[]):=by
 rw [ak,Bool.eq_iff_iff,bne_iff_ne,decide_eq_true_eq]
theorem qhe (l:List UInt8):(aa l).toList.isEmpty = !decide (l≠[]):=by
 rw [ak];cases l <;> rfl
theorem qno (l:List UInt8):decide ((aa l).toList=[]) = !decide (l≠[]):=by
 rw [ak,Bool.eq_iff_iff,Bool.not_eq_true',decide_eq_true_eq,decide_eq_false_iff_not];exact ⟨fun h h2=>h2 h,fun h=>Decidable.not_not.1 h⟩
theorem qmt (s:ByteArray) (w:World) (hs:s.size≤9223372036854775807):Calls Tryz.prog 44 #[.string s] w (Tl (qjJ s.data.toList) w):=by
 have HC:=zh (fun W=>qdz s 58 W hs);have HE:=zh (qrX s.data.toList);have t1:=qfy (hdP 58 s.data.toList);have t2:=qfy (tlP 58 s.data.toList);have p1:=qno (hdP 58 s.data.toList);have e1:=zh (qhe (hdP 58 s.data.toList));have e2:=zh (qhe (tlP 58 s.data.toList));rw [←HE.out];generalize decide (hdP 58 s.data.toList≠[])=x at *;generalize decide (tlP 58 s.data.toList≠[])=y at *;generalize aa (hdP 58 s.data.toList)=A at *;generalize aa (tlP 58 s.data.toList)=B at *;generalize decide (58∈s.data.toList)=f at *;unfold Tl;cases x with
 | false=>
  have q1:A.toList=[]:=of_decide_eq_true p1;clear p1;go_enter Tryz.func44,Tryz.ntmps44;go_wp2_with fail;refine (HC.out _).mono ?_;rintro e w1 ⟨rfl,hb⟩;have HBE:=zh hb;clear hb;go_wp2_with fail;go_ret;exact ⟨rfl,HBE.out⟩
 | true=>
  have q1:¬A.toList=[]:=of_decide_eq_false p1;clear p1;go_enter Tryz.func44,Tryz.ntmps44;go_wp2_with fail;refine (HC.out _).mono ?_;rintro e w1 ⟨rfl,hb⟩;have HBE:=zh hb;clear hb;go_wp2_with fail;go_ret;exact ⟨aW (by rw [e1.out,e2.out];simp),HBE.out⟩
def qtL:Value→Nat | .string s=>s.size | _=>0
def qlN:Value→Nat | .bool true=>1 | _=>0
theorem qjR {first:Bool} {l:List UInt8} (h:tgS first (hdP 45 l)=false):qbe first l=false:=by
 by_cases hm:(45:UInt8)∈l
 ·rw [qkt hm,h];rfl
 ·rw [qob hm,←qcK hm,h]
theorem qhb {first:Bool} {l:List UInt8} (h:tgS first (hdP 45 l)=true) :
  (decide ((45:UInt8)∈l)=true∧qbe first l=qbe false (tlP 45 l))∨(decide ((45:UInt8)∈l)=false∧qbe first l=true):=by
 by_cases hm:(45:UInt8)∈l
 ·exact .inl ⟨zT hm,by rw [qkt hm,h];rfl⟩
 ·exact .inr ⟨zF hm,by rw [qob hm,←qcK hm,h]⟩
theorem qjU (c:UInt8) (l:List UInt8):(tlP c l).length+qlN (.bool (decide (c∈l)))<l.length+1:=by
 by_cases hm:c∈l
 ·have:=qbQ hm;rw [zT hm];show _+1<_;omega
 ·rw [qbv hm,zF hm];show 0+0<_;omega
theorem qo3 (s:ByteArray) (w:World) (hs:s.size≤9223372036854775807):Calls Tryz.prog 84 #[.string s] w (Tl (eV s.data.toList) w):=by
 have HLAN:=zh (show eV s.data.toList=qbe true s.data.toList from rfl);rw [HLAN.out];obtain ⟨L,hL⟩:∃ L,s.data.toList=L:=⟨_,rfl⟩
 have HN:=zh (show L.length≤9223372036854775807 by rw [←hL,ac];exact hs);obtain rfl:s=aa L:=by rw [←hL];rfl
 clear hL hs HLAN;rw [aD];unfold Tl;go_enter Tryz.func84,Tryz.ntmps84;go_wp2_with fail;go_loopw [0,3,4,5] (fun sv lv fv mv wr=>∃ (r:List UInt8) (fst:Bool) (more:Bool),sv = .string (aa r)∧((fst=true∧lv = .int .i64 2∧fv = .func (.func 142) #[] #[])∨(fst=false∧lv = .int .i64 1∧fv = .func (.func 146) #[] #[]))∧mv = .bool more∧r.length≤L.length∧Aside ((more=true∧qbe true L=qbe fst r)∨(more=false∧qbe true L=true))∧Aside (Below w.heap.size w wr)) (fun sv _ _ mv _=>qtL sv+qlN mv)
 case atStart=>exact ⟨L,true,true,rfl,.inl ⟨rfl,rfl,rfl⟩,rfl,Nat.le_refl _,(show _∨_ from .inl ⟨rfl,rfl⟩),(show Below _ _ _ from Below.refl _ _)⟩
 case round=>
  obtain ⟨r,fst,more,rfl,hf,rfl,hr,hst,hbel⟩:=hrel;have HST:=zh hst.out;have HBE:=zh hbel.out;clear hst hbel;cases more with
  | false=>
   have HE:=zh (show qbe true L=true by
    rcases HST.out with ⟨h,_⟩ | ⟨_,h⟩
    ·cases h
    ·exact h)
   rcases hf with ⟨rfl,rfl,rfl⟩ | ⟨rfl,rfl,rfl⟩
   all_goals
    go_wp2_with fail;go_ret;exact ⟨by rw [HE.out];rfl,HBE.out⟩
  | true=>
   have HE:=zh (show qbe true L=qbe fst r by
    rcases HST.out with ⟨_,h⟩ | ⟨h,_⟩
    ·exact h
    ·cases h)
   have hrs:(aa r).size≤9223372036854775807:=by have:=HN.out;rw [al];omega
   have HTL:=zh (qnW 45 r);have HLS:=zh (qjU 45 r);have HSZ:=zh (al r);have HC:=zh (fun W=>qdz (aa r) 45 W hrs);have hts:=qgs 45 hrs;rw [aD] at HC hts;have hsz:=al (hdP 45 r);rcases hf with ⟨rfl,rfl,rfl⟩ | ⟨rfl,rfl,rfl⟩
   ·have HH:=zh (fun W=>eZ qcA qcA (aa (hdP 45 r)) W hts);have HTG:=zh (show (decide (2≤(hdP 45 r).length)&&decide ((hdP 45 r).length≤8)&&dc ltr ltr (hdP 45 r))=tgS true (hdP 45 r) from qq8 _);have HBAD:=zh (fun h=>HE.out.trans (qjR (first:=true) (l:=r) h));have HGO:=zh (fun h=>qhb (first:=true) (l:=r) h);rw [aD] at HH;clear hts hrs;obtain ⟨q,hq⟩:∃ q,(hdP 45 r).length=q:=⟨_,rfl⟩
    rw [hq] at HTG hsz;clear hq;generalize dc ltr ltr (hdP 45 r)=x at *;generalize tgS true (hdP 45 r)=y at *;generalize aa (hdP 45 r)=A at *;obtain ⟨B,hB⟩:∃ B,aa (tlP 45 r)=B:=⟨_,rfl⟩
    rw [hB] at HC;have HB:=zh hB;clear hB;generalize decide ((45:UInt8)∈r)=f at *;obtain rfl:q=A.size:=hsz.symm;clear hsz;by_cases c1:A.size<2
    ·have t1:decide ((A.size:Int)<2)=true:=zT (by omega);have HY:=zh (HBAD.out (by rw [←HTG.out,zF (by omega)];rfl));clear c1;go_wp2_with fail;refine (HC.out _).mono ?_;rintro e w1 ⟨rfl,hb⟩;have HBE2:=zB hb HBE;clear hb;go_wp2_with fail;go_ret;exact ⟨by rw [HY.out];rfl,HBE2.out⟩
    ·have t1:decide ((A.size:Int)<2)=false:=zF (by omega);have HG1:=zh (show decide (2≤A.size)=true from zT (by omega));clear c1;by_cases c2:8<A.size
     ·have t2:decide ((8:Int)<(A.size:Int))=true:=zT (by omega);have HY:=zh (HBAD.out (by rw [←HTG.out,zF (show ¬A.size≤8 by omega),Bool.and_false];rfl));clear c2;go_wp2_with fail;refine (HC.out _).mono ?_;rintro e w1 ⟨rfl,hb⟩;have HBE2:=zB hb HBE;clear hb;go_wp2_with fail;go_ret;exact ⟨by rw [HY.out];rfl,HBE2.out⟩
     ·have t2:decide ((8:Int)<(A.size:Int))=false:=zF (by omega);have HG2:=zh (show decide (A.size≤8)=true from zT (by omega));clear c2;cases x with
      | false=>
       have HY:=zh (HBAD.out (by rw [←HTG.out,Bool.and_false]));go_wp2_with fail;refine (HC.out _).mono ?_;rintro e w1 ⟨rfl,hb⟩;have HBE2:=zB hb HBE;clear hb;go_wp2_with fail;refine (HH.out _).mono ?_;rintro e w2 ⟨rfl,rfl⟩;go_wp2_with fail;go_ret;exact ⟨by rw [HY.out];rfl,HBE2.out⟩
      | true=>
       have HY:=zh (HGO.out (by rw [←HTG.out,HG1.out,HG2.out];rfl));go_wp2_with fail;refine (HC.out _).mono ?_;rintro e w1 ⟨rfl,hb⟩;have HBE2:=zB hb HBE;clear hb;go_wp2_with fail;refine (HH.out _).mono ?_;rintro e w2 ⟨rfl,rfl⟩;go_wp2_with fail;go_roundw
       case rel=>exact ⟨tlP 45 r,false,f,by rw [HB.out],.inr ⟨rfl,rfl,rfl⟩,rfl,by have:=HTL.out;omega,(show _∨_ from by rw [HE.out];exact HY.out),HBE2.out⟩
       case measure=>
        show B.size+qlN (.bool f)<(aa r).size+1;have:=HLS.out;rw [←HB.out,al,al];exact this
   ·have HH:=zh (fun W=>eZ qeF qeF (aa (hdP 45 r)) W hts);have HTG:=zh (show (decide (1≤(hdP 45 r).length)&&decide ((hdP 45 r).length≤8)&&dc alB alB (hdP 45 r))=tgS false (hdP 45 r) from qtn _);have HBAD:=zh (fun h=>HE.out.trans (qjR (first:=false) (l:=r) h));have HGO:=zh (fun h=>qhb (first:=false) (l:=r) h);rw [aD] at HH;clear hts hrs;obtain ⟨q,hq⟩:∃ q,(hdP 45 r).length=q:=⟨_,rfl⟩
    rw [hq] at HTG hsz;clear hq;generalize dc alB alB (hdP 45 r)=x at *;generalize tgS false (hdP 45 r)=y at *;generalize aa (hdP 45 r)=A at *;obtain ⟨B,hB⟩:∃ B,aa (tlP 45 r)=B:=⟨_,rfl⟩
    rw [hB] at HC;have HB:=zh hB;clear hB;generalize decide ((45:UInt8)∈r)=f at *;obtain rfl:q=A.size:=hsz.symm;clear hsz;by_cases c1:A.size<1
    ·have t1:decide ((A.size:Int)<1)=true:=zT (by omega);have HY:=zh (HBAD.out (by rw [←HTG.out,zF (by omega)];rfl));clear c1;go_wp2_with fail;refine (HC.out _).mono ?_;rintro e w1 ⟨rfl,hb⟩;have HBE2:=zB hb HBE;clear hb;go_wp2_with fail;go_ret;exact ⟨by rw [HY.out];rfl,HBE2.out⟩
    ·have t1:decide ((A.size:Int)<1)=false:=zF (by omega);have HG1:=zh (show decide (1≤A.size)=true from zT (by omega));clear c1;by_cases c2:8<A.size
     ·have t2:decide ((8:Int)<(A.size:Int))=true:=zT (by omega);have HY:=zh (HBAD.out (by rw [←HTG.out,zF (show ¬A.size≤8 by omega),Bool.and_false];rfl));clear c2;go_wp2_with fail;refine (HC.out _).mono ?_;rintro e w1 ⟨rfl,hb⟩;have HBE2:=zB hb HBE;clear hb;go_wp2_with fail;go_ret;exact ⟨by rw [HY.out];rfl,HBE2.out⟩
     ·have t2:decide ((8:Int)<(A.size:Int))=false:=zF (by omega);have HG2:=zh (show decide (A.size≤8)=true from zT (by omega));clear c2;cases x with
      | false=>
       have HY:=zh (HBAD.out (by rw [←HTG.out,Bool.and_false]));go_wp2_with fail;refine (HC.out _).mono ?_;rintro e w1 ⟨rfl,hb⟩;have HBE2:=zB hb HBE;clear hb;go_wp2_with fail;refine (HH.out _).mono ?_;rintro e w2 ⟨rfl,rfl⟩;go_wp2_with fail;go_ret;exact ⟨by rw [HY.out];rfl,HBE2.out⟩
      | true=>
       have HY:=zh (HGO.out (by rw [←HTG.out,HG1.out,HG2.out];rfl));go_wp2_with fail;refine (HC.out _).mono ?_;rintro e w1 ⟨rfl,hb⟩;have HBE2:=zB hb HBE;clear hb;go_wp2_with fail;refine (HH.out _).mono ?_;rintro e w2 ⟨rfl,rfl⟩;go_wp2_with fail;go_roundw
       case rel=>exact ⟨tlP 45 r,false,f,by rw [HB.out],.inr ⟨rfl,rfl,rfl⟩,rfl,by have:=HTL.out;omega,(show _∨_ from by rw [HE.out];exact HY.out),HBE2.out⟩
       case measure=>
        show B.size+qlN (.bool f)<(aa r).size+1;have:=HLS.out;rw [←HB.out,al,al];exact this
theorem qr8 (s t:ByteArray) (w:World) (hs:s.size≤9223372036854775807):Calls Tryz.prog 76 #[.string s,.string t] w (Tl (inS s.data.toList t.data.toList) w):=by
 obtain ⟨L,hL⟩:∃ L,s.data.toList=L:=⟨_,rfl⟩
 have HN:=zh (show L.length≤9223372036854775807 by rw [←hL,ac];exact hs);obtain rfl:s=aa L:=by rw [←hL];rfl
 clear hL hs;rw [aD];unfold Tl;by_cases h0:t.data.toList=[]
 ·have HE:=zh (show inS L t.data.toList=false by rw [h0];rfl);have t0:(t.toList==[])=true:=by rw [ByteArray.toList_eq,h0];rfl
  have t1:t.toList=[]:=by rw [ByteArray.toList_eq,h0]
  clear h0;rw [HE.out];go_enter Tryz.func76,Tryz.ntmps76;go_wp2_with fail;go_ret;exact ⟨rfl,Below.refl _ _⟩
 ·have t0:(t.toList==[])=false:=by rw [ByteArray.toList_eq,beq_eq_false_iff_ne];exact h0
  have t1:¬t.toList=[]:=by rw [ByteArray.toList_eq];exact h0
  have H0:=zh h0;clear h0;obtain ⟨tl,htl⟩:∃ tl,t.data.toList=tl:=⟨_,rfl⟩
  rw [htl] at H0 ⊢;have HTT:=zh (show t.toList=tl by rw [ByteArray.toList_eq];exact htl);clear htl;go_enter Tryz.func76,Tryz.ntmps76;go_wp2_with fail;clear t0 t1;go_loopw [0,5] (fun sv mv wr=>∃ (r:List UInt8) (more:Bool),sv = .string (aa r)∧mv = .bool more∧r.length≤L.length∧Aside ((more=true∧inS L tl=inS r tl)∨(more=false∧inS L tl=false))∧Aside (Below w.heap.size w wr)) (fun sv mv _=>qtL sv+qlN mv)
  case atStart=>exact ⟨L,true,rfl,rfl,Nat.le_refl _,(show _∨_ from .inl ⟨rfl,rfl⟩),(show Below _ _ _ from Below.refl _ _)⟩
  case round=>
   obtain ⟨r,more,rfl,rfl,hr,hst,hbel⟩:=hrel;have HST:=zh hst.out;have HBE:=zh hbel.out;clear hst hbel;cases more with
   | false=>
    have HE:=zh (show inS L tl=false by
     rcases HST.out with ⟨h,_⟩ | ⟨_,h⟩
     ·cases h
     ·exact h)
    go_wp2_with fail;go_ret;exact ⟨by rw [HE.out];rfl,HBE.out⟩
   | true=>
    have HE:=zh (show inS L tl=inS r tl by
     rcases HST.out with ⟨_,h⟩ | ⟨h,_⟩
     ·exact h
     ·cases h)
    have hrs:(aa r).size≤9223372036854775807:=by have:=HN.out;rw [al];omega
    have HTL:=zh (qnW 32 r);have HLS:=zh (qjU 32 r);have HC:=zh (fun W=>qdz (aa r) 32 W hrs);rw [aD] at HC;by_cases c1:hdP 32 r=tl
    ·have t2:((aa (hdP 32 r)).toList==t.toList)=true:=by rw [ak,HTT.out,c1];simp
     have t3:(aa (hdP 32 r)).toList=t.toList:=by rw [ak,HTT.out,c1]
     have HY:=zh (show inS L tl=true by
      rw [HE.out];by_cases hm:(32:UInt8)∈r
      ·rw [qoU H0.out hm,decide_eq_true c1];rfl
      ·rw [qre H0.out hm,decide_eq_true c1])
     generalize aa (hdP 32 r)=A at *;generalize aa (tlP 32 r)=B at *;generalize decide ((32:UInt8)∈r)=f at *;clear c1 hrs;go_wp2_with fail;refine (HC.out _).mono ?_;rintro e w1 ⟨rfl,hb⟩;have HBE2:=zB hb HBE;clear hb;go_wp2_with fail;go_ret;exact ⟨by rw [HY.out];rfl,HBE2.out⟩
    ·have t2:((aa (hdP 32 r)).toList==t.toList)=false:=by rw [ak,HTT.out];exact beq_eq_false_iff_ne.2 c1
     have t3:¬(aa (hdP 32 r)).toList=t.toList:=by rw [ak,HTT.out];exact c1
     have HY:=zh (show (decide ((32:UInt8)∈r)=true∧inS L tl=inS (tlP 32 r) tl)∨(decide ((32:UInt8)∈r)=false∧inS L tl=false) by
      rw [HE.out];by_cases hm:(32:UInt8)∈r
      ·exact .inl ⟨zT hm,by rw [qoU H0.out hm,decide_eq_false c1];rfl⟩
      ·exact .inr ⟨zF hm,by rw [qre H0.out hm,decide_eq_false c1]⟩)
     generalize aa (hdP 32 r)=A at *;obtain ⟨B,hB⟩:∃ B,aa (tlP 32 r)=B:=⟨_,rfl⟩
     rw [hB] at HC;have HB:=zh hB;clear hB;generalize decide ((32:UInt8)∈r)=f at *;clear c1 hrs;go_wp2_with fail;refine (HC.out _).mono ?_;rintro e w1 ⟨rfl,hb⟩;have HBE2:=zB hb HBE;clear hb;go_wp2_with fail;go_roundw
     case rel=>exact ⟨tlP 32 r,f,by rw [HB.out],rfl,by have:=HTL.out;omega,(show _∨_ from HY.out),HBE2.out⟩
     case measure=>
      show B.size+qlN (.bool f)<(aa r).size+1;have:=HLS.out;rw [←HB.out,al,al];exact this
end Wo
namespace Re
open Go.RowKit Utf Sc
mutual
/-- In w the five cells cs read as the value v; what it holds lies in blocks from lo on, below hi. -/
def RdV (w:World) (lo hi:Nat):V→List Value→Prop
 | .mk k n s l ns ms,cs=>∃ vl vm:Value,cs=[.int .i64 k,.int .i64 n,.string (aa s),vl,vm]∧
   (∃ A c,vl = .slice A l.length (l.length+c)∧(0<l.length→∃ g,A=some ⟨g,0,none⟩∧lo≤g∧g<hi∧RdL w lo hi g 0 l))∧
   (∃ A c,vm = .slice A ms.length (ms.length+c)∧ns.length=ms.length∧(0<ms.length→∃ g,A=some ⟨g,0,none⟩∧lo≤g∧g<hi∧RdM w lo hi g 0 ns ms))
def RdL (w:World) (lo hi:Nat):Nat→Nat→List V→Prop
 | _,_,[]=>True
 | g,i,v::r=>(∃ cs,(∀ j u,cs[j]? = some u→w.cell? ⟨g,i*5+j,none⟩=some u)∧RdV w lo hi v cs)∧RdL w lo hi g (i+1) r
def RdM (w:World) (lo hi:Nat):Nat→Nat→List (List UInt8)→List V→Prop
 | _,_,_,[]=>True
 | g,i,ns,v::r=>∃ nm ns',ns=nm::ns'∧w.cell? ⟨g,i*6,none⟩=some (.string (aa nm))∧(∃ cs,(∀ j u,cs[j]? = some u→w.cell? ⟨g,i*6+1+j,none⟩=some u)∧RdV w lo hi v cs)∧RdM w lo hi g (i+1) ns' r
end
section
variable {w w':World} {lo hi lo' hi':Nat}
mutual
theorem RdV.keep (hk:∀ p:Addr,lo≤p.block→p.block<hi→w'.cell? p=w.cell? p) (h1:lo'≤lo) (h2:hi≤hi'):∀ (v:V) (cs:List Value),RdV w lo hi v cs→RdV w' lo' hi' v cs
 | .mk k n s l ns ms,cs,h=>by
  rw [RdV] at h ⊢;obtain ⟨vl,vm,rfl,⟨A,c,rfl,ha⟩,⟨A2,c2,rfl,hn,hb⟩⟩:=h;refine ⟨_,_,rfl,⟨A,c,rfl,fun h0=>?_⟩,⟨A2,c2,rfl,hn,fun h0=>?_⟩⟩
  ·obtain ⟨g,e,g1,g2,h⟩:=ha h0;exact ⟨g,e,by omega,by omega,RdL.keep hk h1 h2 l g 0 g1 g2 h⟩
  ·obtain ⟨g,e,g1,g2,h⟩:=hb h0;exact ⟨g,e,by omega,by omega,RdM.keep hk h1 h2 ms ns g 0 g1 g2 h⟩
theorem RdL.keep (hk:∀ p:Addr,lo≤p.block→p.block<hi→w'.cell? p=w.cell? p) (h1:lo'≤lo) (h2:hi≤hi'):∀ (l:List V) (g i:Nat),lo≤g→g<hi→RdL w lo hi g i l→RdL w' lo' hi' g i l
 | [],g,i,_,_,_=>by rw [RdL];trivial
 | v::r,g,i,g1,g2,h=>by
  rw [RdL] at h ⊢;obtain ⟨⟨cs,hc,hv⟩,hr⟩:=h;exact ⟨⟨cs,fun j u hu=>(hk ⟨g,i*5+j,none⟩ g1 g2).trans (hc j u hu),RdV.keep hk h1 h2 v cs hv⟩,RdL.keep hk h1 h2 r g (i+1) g1 g2 hr⟩
theorem RdM.keep (hk:∀ p:Addr,lo≤p.block→p.block<hi→w'.cell? p=w.cell? p) (h1:lo'≤lo) (h2:hi≤hi'):∀ (ms:List V) (ns:List (List UInt8)) (g i:Nat),lo≤g→g<hi→RdM w lo hi g i ns ms→RdM w' lo' hi' g i ns ms
 | [],ns,g,i,_,_,_=>by rw [RdM];trivial
 | v::r,ns,g,i,g1,g2,h=>by
  rw [RdM] at h ⊢;obtain ⟨nm,ns',rfl,hm,⟨cs,hc,hv⟩,hr⟩:=h;exact ⟨nm,ns',rfl,(hk ⟨g,i*6,none⟩ g1 g2).trans hm,⟨cs,fun j u hu=>(hk ⟨g,i*6+1+j,none⟩ g1 g2).trans (hc j u hu),RdV.keep hk h1 h2 v cs hv⟩,RdM.keep hk h1 h2 r ns' g (i+1) g1 g2 hr⟩
end
theorem RdV.cells {v:V} {cs:List Value} (h:RdV w lo hi v cs):∃ A c A2 c2,cs=[.int .i64 v.k,.int .i64 v.n,.string (aa v.s),.slice A v.l.length c,.slice A2 v.ms.length c2]∧v.ns.length=v.ms.length∧
  (0<v.l.length→∃ g,A=some ⟨g,0,none⟩∧lo≤g∧g<hi∧RdL w lo hi g 0 v.l)∧(0<v.ms.length→∃ g,A2=some ⟨g,0,none⟩∧lo≤g∧g<hi∧RdM w lo hi g 0 v.ns v.ms):=by
 obtain ⟨k,n,s,l,ns,ms⟩:=v;rw [RdV] at h;obtain ⟨vl,vm,rfl,⟨A,c,rfl,ha⟩,⟨A2,c2,rfl,hn,hb⟩⟩:=h;exact ⟨A,_,A2,_,rfl,hn,ha,hb⟩
end
theorem qeK (v:V):cnt v=1+bu v.l+bu v.ms:=by cases v;rw [cnt];rfl
theorem dL (v:V):ht v=max (htL v.l) (htL v.ms)+1:=by cases v;rw [ht];rfl
end Re
namespace Em
open Utf Sc Re Nu
open Ch (qbL qgH)
def st (t:Tok):Int×Int×List UInt8:=(t.1,t.2.1,t.2.2.1)
theorem e58:qtA ((58:UInt8).toNat:Int):=by unfold qtA;decide
theorem qkG {k n:Int} {s:List UInt8} {l ms:List V} {ns:List (List UInt8)} (h:own k n s l.length ns ms.length) (hk:k≠5):l=[]:=List.eq_nil_of_length_eq_zero (h.1.2.2.2.1 hk)
theorem qjZ {k n:Int} {s:List UInt8} {l ms:List V} {ns:List (List UInt8)} (h:own k n s l.length ns ms.length) (hk:k≠6):ms=[]:=List.eq_nil_of_length_eq_zero (h.1.2.2.2.2 hk)
end Em
namespace Re
open Utf Sc
set_option linter.unusedSimpArgs false
theorem qmQ {l:List UInt8} {ts:List Tok} {r:V×Int×Int} (h:eb l=(ts,0,0)) (h2:rdT ts (l.length:Int)=r):rdV l=r:=by
 unfold rdV;rw [h];exact h2
