/- Merged: StE. -/
import Derived.Test.YtnecfkhbncepnaaGreatDoorTt21
import Derived.Lib.SlBytesConst
set_option maxRecDepth 100000
set_option maxHeartbeats 1000000
namespace Go.Proofs.YtnecfkhbncepnaaGreatDoor
namespace St
open Go.RowKit Utf Nu
theorem qt4 {l:List UInt8} (h:l=[90]):eO l 0=true:=by subst h;decide
theorem qrU {l:List UInt8} {c:UInt8} (h1:l.length=1) (h2:byt l 0=(c.toNat:Int)):l=[c]:=by
 match l,h1 with
 | [a],_=>
  rw [d6] at h2;rw [UInt8.toNat.inj (show a.toNat=c.toNat by omega)]
theorem qj7 {l:List UInt8} (h:¬l=[90]):eO l 0=true↔(3≤l.length∧l.length≤11∧byt l 0=46∧byt l (l.length-1)=90∧byt l (l.length-2)≠48∧bk l 1 (l.length-2)=true):=by
 unfold eO;simp only [decide_eq_true_eq,Nat.zero_add];constructor
 ·rintro (⟨h1,h2⟩ | h1)
  ·exact absurd (qrU (c:=90) h1 h2) h
  ·exact h1
 ·exact .inr
theorem qta {l:List UInt8} (h:¬l=[90]) (h2:¬(3≤l.length∧l.length≤11∧byt l 0=46∧byt l (l.length-1)=90∧byt l (l.length-2)≠48∧bk l 1 (l.length-2)=true)):eO l 0=false:=
 Bool.eq_false_iff.2 fun h3=>h2 ((qj7 h).1 h3)
theorem qoC (s:ByteArray) (l:List UInt8):(s.toList==l)=decide (s.data.toList=l):=by
 rw [Bool.eq_iff_iff,ByteArray.toList_eq,beq_iff_eq,decide_eq_true_eq]
theorem noE {s:ByteArray} (h:¬s.size=0):(s.toList==[])=false:=by
 rw [qoC];exact decide_eq_false fun e=>h (by rw [←ac,e];rfl)
theorem emp {s:ByteArray} (h:s.size=0):s=⟨#[]⟩:=by
 cases s with | mk d=>cases d with | mk l=>cases l with | nil=>rfl | cons a b=>cases h
theorem qpy (s:ByteArray) (h2:2≤s.size):(((s.extract 1 s.size).extract 0 ((s.extract 1 s.size).size-1)).size=s.size-2)∧∀ j,j<s.size-2→byt ((s.extract 1 s.size).extract 0 ((s.extract 1 s.size).size-1)).data.toList j=byt s.data.toList (1+j):=by
 have e1:(s.extract 1 s.size).size=s.size-1:=by rw [ByteArray.size_extract];omega
 refine ⟨by rw [ByteArray.size_extract,e1];omega,fun j hj=>?_⟩;rw [exT,exD,e1];unfold byt;rw [List.getD_eq_getElem?_getD,List.getElem?_take,if_pos (by omega),List.getElem?_drop,List.getD_eq_getElem?_getD]
theorem qmA (s:ByteArray) (w:World) (hs:s.size≤9223372036854775807):Calls Tryz.prog 200 #[.string s] w (qbk (.bool (eO s.data.toList 0)) w):=by
 have hq:=qoC s [90];by_cases hz:s.data.toList=[90]
 ·rw [zT hz] at hq;rw [qt4 hz];clear hz;go_enter Tryz.func200,Tryz.ntmps200;go_wp2_with fail;go_ret;exact ⟨rfl,Below.refl _ _⟩
 rw [zF hz] at hq;have HNO:=zh (qta hz);have HI:=zh (qj7 hz);clear hz;have hl:s.data.toList.length=s.size:=rfl;have C1:=zh (fun wx=>qiA s ⟨#[46]⟩ wx);have hp:=qtG 46 s.data.toList;rw [hl] at hp;have e46:(⟨#[46]⟩:ByteArray).data.toList=[46]:=rfl;rw [e46] at C1;by_cases h1:0<s.size∧byt s.data.toList 0=46
 ·have hp1:qcd [46] s.data.toList=true:=by rw [hp];exact zT h1
  rw [hp1,if_pos rfl] at C1;have hx:(s.extract 1 s.size).size=s.size-1:=by rw [ByteArray.size_extract];omega
  have C2:=zh (fun wx=>qeb (s.extract 1 s.size) ⟨#[90]⟩ wx (by omega));have e90:(⟨#[90]⟩:ByteArray).data.toList=[90]:=rfl;rw [e90] at C2;have hq2:=qtX 90 (s.extract 1 s.size).data.toList;have hxl:(s.extract 1 s.size).data.toList.length=s.size-1:=hx;rw [hxl] at hq2;have hb:byt (s.extract 1 s.size).data.toList (s.size-1-1)=byt s.data.toList (1+(s.size-1-1)):=by rw [exD,di]
  rw [hb] at hq2;by_cases h2:0<s.size-1∧byt s.data.toList (1+(s.size-1-1))=90
  ·have hs1:qbg [90] (s.extract 1 s.size).data.toList=true:=by rw [hq2];exact zT h2
   rw [hs1,if_pos rfl] at C2;have hm:=qpy s (by omega);rw [show (⟨#[90]⟩:ByteArray).size=1 from rfl] at C2;have hlast:byt s.data.toList (s.size-1)=90:=by have:=h2.2;rwa [show 1+(s.size-1-1)=s.size-1 by omega] at this
   have H1:=zh h1.2;have HLAST:=zh hlast;have sz2:2≤s.size:=by omega
   obtain ⟨s1,hs1'⟩:∃ s1,s.extract 1 s.size=s1:=⟨_,rfl⟩
   have e1:(⟨#[46]⟩:ByteArray).size=1:=rfl;rw [e1] at C1;rw [hs1'] at C1 C2 hm;obtain ⟨d,hd⟩:∃ d,s1.extract 0 (s1.size-1)=d:=⟨_,rfl⟩
   rw [hd] at C2 hm;obtain ⟨hd1,hd2⟩:=hm;have HB:=zh hd2;clear hd2 hd hs1' hs1 hb hxl hq2 e90 hx h2 hp1 hp e46 h1 hlast;by_cases h0:d.size=0
   ·have hf:eO s.data.toList 0=false:=HNO.out (by rw [hl];omega);rw [hf];obtain rfl:=emp h0;clear hf h0 hd1 hl;go_enter Tryz.func200,Tryz.ntmps200;go_wp2_with fail;refine (C1.out _).mono ?_;rintro e w1 ⟨rfl,rfl⟩;go_wp2_with fail;refine (C2.out _).mono ?_;rintro e w1 ⟨rfl,rfl⟩;go_wp2_with fail;go_ret;exact ⟨rfl,Below.refl _ _⟩
   have hne:=noE h0;by_cases h9:9<d.size
   ·have hf:eO s.data.toList 0=false:=HNO.out (by rw [hl];omega);rw [hf];have t9:decide ((9:Int)<(d.size:Int))=true:=zT (by omega);clear hf h0 hd1 hl h9;go_enter Tryz.func200,Tryz.ntmps200;go_wp2_with fail;refine (C1.out _).mono ?_;rintro e w1 ⟨rfl,rfl⟩;go_wp2_with fail;refine (C2.out _).mono ?_;rintro e w1 ⟨rfl,rfl⟩;go_wp2_with fail;go_ret;exact ⟨rfl,Below.refl _ _⟩
   have t9:decide ((9:Int)<(d.size:Int))=false:=zF (by omega);obtain ⟨p,hp⟩:∃ p:Nat,d.size=p+1:=⟨d.size-1,by omega⟩
   have HDF:=zh (show ∀ j,j<p+1→isD (byt s.data.toList (1+j))=false→eO s.data.toList 0=false from fun j hj hf=>HNO.out fun h3=>by
    have:=(bN _ _ _).1 h3.2.2.2.2.2 j (by rw [hl];omega);rw [this] at hf;cases hf)
   have HEND:=zh (show (∀ j,j<p+1→isD (byt s.data.toList (1+j))=true)→eO s.data.toList 0=decide (byt s.data.toList (1+p)≠48) from fun hj=>by
    rw [Bool.eq_iff_iff,HI.out,decide_eq_true_eq,hl];have ep:s.size-2=1+p:=by omega
    constructor
    ·intro h3;have:=h3.2.2.2.2.1;rwa [ep] at this
    ·intro h3;exact ⟨by omega,by omega,H1.out,HLAST.out,by rw [ep];exact h3,(bN _ _ _).2 fun j hj2=>hj j (by omega)⟩)
   have hcv:=fun wx=>qrk wx d;obtain ⟨W1,hW1⟩:∃ W1,W1=Lib.bytesWorld w 5 d:=⟨_,rfl⟩
   have HBW:=zh (show Below w.heap.size w W1 by rw [hW1];exact qkk _ _ _);have HC:=zh (show ∀ j,j<p+1→W1.cell? ⟨w.heap.size,j,none⟩=some (.int .u8 (byt s.data.toList (1+j))) from fun j hj=>by
    rw [hW1,qrh _ _ _ _ (by omega),HB.out j (by omega)])
   have hcv2:=hcv w;rw [←hW1,hp] at hcv2;obtain ⟨cp,hcp⟩:∃ cp,grownCap w (p+1) 0 5=cp:=⟨_,rfl⟩
   rw [hcp] at hcv2;have hpd:p<d.size:=by omega
   have g:=be d p hpd;rw [HB.out p (by omega)] at g;have HG:=zh g;have p8:p≤8:=by omega
   have i3:(0:Int)≤(p:Int):=by omega
   have i4:(p:Int)<(d.size:Int):=by omega
   have HP:=zh hp;have hps:(d.size:Int)=(p:Int)+1:=by omega
   clear hcv hW1 hcp h0 h9 hd1 hl sz2 g hp;go_enter Tryz.func200,Tryz.ntmps200;go_wp2_with fail;refine (C1.out _).mono ?_;rintro e w1 ⟨rfl,rfl⟩;go_wp2_with fail;refine (C2.out _).mono ?_;rintro e w1 ⟨rfl,rfl⟩;go_wp2_with fail;go_loopw [38] (fun i wr=>∃ k:Nat,i = .int .i64 k∧k≤p+1∧Aside (∀ j,j<k→isD (byt s.data.toList (1+j))=true)∧wr=W1) (fun i _=>p+1-(intOf i).toNat)
   case atStart=>exact ⟨0,rfl,by omega,(fun j hj=>absurd hj (by omega)),rfl⟩
   case round=>
    obtain ⟨k,rfl,hk,hm,hwr⟩:=hrel;obtain rfl:W1=wr:=hwr.symm;have HM:=zh hm.out;clear hm;by_cases hlt:k<p+1
    ·have t1:decide ((k:Int)<(p:Int)+1)=true:=zT (by omega);have i0:(0:Int)≤(k:Int):=by omega
     have i1:(k:Int)<(p:Int)+1:=by omega
     have i2:((k:Int)).toNat=k:=by omega
     have hc:=HC.out k hlt;obtain ⟨b,hb⟩:∃ b:Int,byt s.data.toList (1+k)=b:=⟨_,rfl⟩
     rw [hb] at hc;have CD:=zh (fun wx=>qfL b wx);cases hdb:isD b with
     | false=>
      rw [hdb] at CD;have HF:=zh (HDF.out k hlt (by rw [hb];exact hdb));clear hb hdb hlt;go_wp2_with fail;refine (CD.out _).mono ?_;rintro e w' ⟨rfl,rfl⟩;go_wp2_with fail;go_ret;exact ⟨by rw [HF.out];rfl,HBW.out⟩
     | true=>
      rw [hdb] at CD;have HN:=zh (show ∀ j,j<k+1→isD (byt s.data.toList (1+j))=true from fun j hj=>by
       by_cases h:j=k
       ·rw [h,hb];exact hdb
       ·exact HM.out j (by omega))
      clear hb hdb;go_wp2_with fail;refine (CD.out _).mono ?_;rintro e w' ⟨rfl,rfl⟩;go_wp2_with fail;go_roundw
      case rel=>exact ⟨k+1,by go_num,by omega,HN.out,by trivial⟩
      case measure=>simp [intOf];omega
    ·obtain rfl:k=p+1:=by omega
     have t1:decide ((((p+1:Nat)):Int)<(p:Int)+1)=false:=zF (by omega);have t2:decide ((p:Int)+1<(p:Int)+1)=false:=zF (by omega);have HE:=zh (HEND.out HM.out);rw [HG.out] at HE;clear hlt hk;by_cases h48:(d[p].toNat:Int)=48
     ·have t3:((d[p].toNat:Int) != 48)=false:=by rw [bne_eq_false_iff_eq];exact h48
      have HF:=zh (show eO s.data.toList 0=false by rw [HE.out];exact decide_eq_false fun h=>h h48);clear h48;go_wp2_with fail;go_ret;exact ⟨by rw [HF.out];rfl,HBW.out⟩
     ·have t3:((d[p].toNat:Int) != 48)=true:=by rw [bne_iff_ne];exact h48
      have HF:=zh (show eO s.data.toList 0=true by rw [HE.out];exact zT h48);clear h48;go_wp2_with fail;go_ret;exact ⟨by rw [HF.out];rfl,HBW.out⟩
  ·have hs1:qbg [90] (s.extract 1 s.size).data.toList=false:=by rw [hq2];exact zF h2
   rw [hs1,if_neg Bool.false_ne_true] at C2;have hf:eO s.data.toList 0=false:=HNO.out fun h3=>h2 (by rw [hl] at h3;exact ⟨by omega,by rw [show 1+(s.size-1-1)=s.size-1 by omega];exact h3.2.2.2.1⟩);rw [hf];have e1:(⟨#[46]⟩:ByteArray).size=1:=rfl;rw [e1] at C1;obtain ⟨s1,hs1'⟩:∃ s1,s.extract 1 s.size=s1:=⟨_,rfl⟩
   rw [hs1'] at C1 C2;clear hf hs1' hs1 h2 hb hxl hq2 e90 hx hp1 h1 hp e46;go_enter Tryz.func200,Tryz.ntmps200;go_wp2_with fail;refine (C1.out _).mono ?_;rintro e w1 ⟨rfl,rfl⟩;go_wp2_with fail;refine (C2.out _).mono ?_;rintro e w1 ⟨rfl,rfl⟩;go_wp2_with fail;go_ret;exact ⟨rfl,Below.refl _ _⟩
 ·have hp1:qcd [46] s.data.toList=false:=by rw [hp];exact zF h1
  rw [hp1,if_neg Bool.false_ne_true] at C1;have hf:eO s.data.toList 0=false:=HNO.out fun h3=>h1 (by rw [hl] at h3;exact ⟨by omega,h3.2.2.1⟩);rw [hf];have C2:=zh (fun wx=>qeb s ⟨#[90]⟩ wx hs);generalize (if qbg (⟨#[90]⟩:ByteArray).data.toList s.data.toList=true then s.extract 0 (s.size-(⟨#[90]⟩:ByteArray).size) else s)=X at *;generalize qbg (⟨#[90]⟩:ByteArray).data.toList s.data.toList=b at *;clear hf hp1 h1 hp e46;cases b <;>
  ·go_enter Tryz.func200,Tryz.ntmps200;go_wp2_with fail;refine (C1.out _).mono ?_;rintro e w1 ⟨rfl,rfl⟩;go_wp2_with fail;refine (C2.out _).mono ?_;rintro e w1 ⟨rfl,rfl⟩;go_wp2_with fail;go_ret;exact ⟨rfl,Below.refl _ _⟩
def qlg (w:World) (l:List UInt8):World:=w.alloc (.cells (Lib.byteCells l).toArray 5 (l.length,l.length+1))
theorem qjC (w:World) (l:List UInt8):Below w.heap.size w (qlg w l):=(Below.refl _ _).alloc (Nat.le_refl _) _
theorem qlJ (w:World) (l:List UInt8) (k:Nat) (hk:k<l.length):(qlg w l).cell? ⟨w.heap.size,k,none⟩=some (.int .u8 (byt l k)):=by
 unfold qlg;rw [World.cell?_alloc_mark,List.getElem?_toArray,Lib.byteCells,List.getElem?_map,List.getElem?_eq_getElem hk,Option.map_some,qiM hk]
theorem qnL (w:World) (l:List UInt8) (n:Nat):(convert 94 94 (.slice (some ⟨w.heap.size,0,none⟩) n n)).run Tryz.prog (w.alloc (.cells (Lib.byteCells l).toArray 5)) = .ok (.slice (some ⟨w.heap.size,0,none⟩) n n) (qlg w l):=by
 have hs:(Lib.byteCells l).toArray.size=l.length:=by rw [List.size_toArray,Lib.byteCells_length]
 rw [Lib.run_convert_bytes_const (P:=Tryz.prog) w 94 5 _ n n Tryz.underlying94 Tryz.underlying5,hs];rfl
theorem qtx (k:Nat):0≤byt eW k∧byt eW k≤255:=⟨eB _ _,qcM _ _⟩
theorem qaP (s:ByteArray) (w:World) (hs:s.size≤9223372036854775807):Calls Tryz.prog 177 #[.string s] w (qbk (.bool (frm s.data.toList&&eO s.data.toList 19)) w):=by
 have hl:s.data.toList.length=s.size:=rfl;by_cases h19:s.size<19
 ·have t1:decide ((s.size:Int)<19)=true:=zT (by omega);have hf:=ql9 (l:=s.data.toList) (by omega);rw [hf,Bool.false_and];clear hf h19;go_enter Tryz.func177,Tryz.ntmps177;go_wp2_with fail;go_ret;exact ⟨rfl,Below.refl _ _⟩
 have t1:decide ((s.size:Int)<19)=false:=zF (by omega);have k19:(19:Int)≤(s.size:Int):=by omega
 have HNO:=zh (fun k (hk:k<19) (h:qe2 k (byt s.data.toList k)=false)=>qrT hk h);have HYES:=zh (fun h=>qss (l:=s.data.toList) (by omega) h);have CE:=zh (fun wx=>qmA (s.extract 19 s.size) wx (by rw [ByteArray.size_extract];omega));rw [exD,qmg _ (by omega)] at CE;have HC:=zh (show ∀ k,k<19→(qlg w eW).cell? ⟨w.heap.size,k,none⟩=some (.int .u8 (byt eW k)) from fun k hk=>qlJ w eW k hk);have hcv:=qnL w eW 19;obtain ⟨W0,hW0⟩:∃ W0,W0=qlg w eW:=⟨_,rfl⟩
 have HB:=zh (show Below w.heap.size w W0 by rw [hW0];exact qjC _ _);rw [←hW0] at HC hcv;replace hcv:(convert 94 94 (.slice (some ⟨w.heap.size,0,none⟩) 19 19)).run Tryz.prog (w.alloc (.cells #[.int .u8 48,.int .u8 48,.int .u8 48,.int .u8 48,.int .u8 45,.int .u8 48,.int .u8 48,.int .u8 45,.int .u8 48,.int .u8 48,.int .u8 84,.int .u8 48,.int .u8 48,.int .u8 58,.int .u8 48,.int .u8 48,.int .u8 58,.int .u8 48,.int .u8 48] 5)) = .ok (.slice (some ⟨w.heap.size,0,none⟩) 19 19) W0:=hcv;clear hW0;obtain ⟨E,hE⟩:∃ E,eO s.data.toList 19=E:=⟨_,rfl⟩
 rw [hE] at CE ⊢;clear hE hl h19;go_enter Tryz.func177,Tryz.ntmps177;go_wp2_with fail;go_loopw [11] (fun i wr=>∃ k:Nat,i = .int .i64 k∧k≤19∧Aside (∀ j,j<k→qe2 j (byt s.data.toList j)=true)∧wr=W0) (fun i _=>19-(intOf i).toNat)
 case atStart=>exact ⟨0,rfl,by omega,(fun j hj=>absurd hj (by omega)),rfl⟩
 case round=>
  obtain ⟨k,rfl,hk,hm,hwr⟩:=hrel;obtain rfl:W0=wr:=hwr.symm;have HM:=zh hm.out;clear hm;by_cases hlt:k<19
  ·have t2:decide ((k:Int)<19)=true:=zT (by omega);have i0:(0:Int)≤(k:Int):=by omega
   have i1:(k:Int)<19:=by omega
   have i2:((k:Int)).toNat=k:=by omega
   have i3:k<s.size:=by omega
   have i4:(k:Int)<(s.size:Int):=by omega
   have hc:=HC.out k hlt;have g:=be s k i3;have HF:=zh (HNO.out k hlt);have HN:=zh (show qe2 k (byt s.data.toList k)=true→∀ j,j<k+1→qe2 j (byt s.data.toList j)=true from fun h j hj=>by
    by_cases h2:j=k
    ·rw [h2];exact h
    ·exact HM.out j (by omega))
   have HFIT:=zh (show qe2 k (byt s.data.toList k)=if byt eW k=48 then isD (byt s.data.toList k) else decide (byt s.data.toList k=byt eW k) from rfl);rw [g] at HF HN HFIT;obtain ⟨f,hf⟩:∃ f:Int,byt eW k=f:=⟨_,rfl⟩
   have hfb:=qtx k;rw [hf] at hc HFIT hfb;clear g hf;by_cases h48:f=48
   ·subst h48;have CD:=zh (fun wx=>qfL (s[k].toNat:Int) wx);rw [if_pos rfl] at HFIT;cases hdb:isD (s[k].toNat:Int) with
    | false=>
     rw [hdb] at CD;have HR:=zh (HF.out (by rw [HFIT.out];exact hdb));clear hdb hlt;go_wp2_with fail;refine (CD.out _).mono ?_;rintro e w' ⟨rfl,rfl⟩;go_wp2_with fail;go_ret;exact ⟨by rw [HR.out];rfl,HB.out⟩
    | true=>
     rw [hdb] at CD;have HR:=zh (HN.out (by rw [HFIT.out];exact hdb));clear hdb;go_wp2_with fail;refine (CD.out _).mono ?_;rintro e w' ⟨rfl,rfl⟩;go_wp2_with fail;go_roundw
     case rel=>exact ⟨k+1,by go_num,by omega,HR.out,by trivial⟩
     case measure=>simp [intOf];omega
   ·rw [if_neg h48] at HFIT;have t3:(f==48)=false:=beq_eq_false_iff_ne.2 h48;have t4:(f != 48)=true:=by rw [bne_iff_ne];exact h48
    by_cases hb:(s[k].toNat:Int)=f
    ·have t5:((s[k].toNat:Int) != f)=false:=by rw [bne_eq_false_iff_eq];exact hb
     have HR:=zh (HN.out (by rw [HFIT.out];exact zT hb));clear hb h48;go_wp2_with fail;go_roundw
     case rel=>exact ⟨k+1,by go_num,by omega,HR.out,by trivial⟩
     case measure=>simp [intOf];omega
    ·have t5:((s[k].toNat:Int) != f)=true:=by rw [bne_iff_ne];exact hb
     have HR:=zh (HF.out (by rw [HFIT.out];exact zF hb));clear hb h48 hlt;go_wp2_with fail;go_ret;exact ⟨by rw [HR.out];rfl,HB.out⟩
  ·obtain rfl:k=19:=by omega
   have t2:decide (((19:Nat):Int)<19)=false:=by decide
   have HR:=zh (HYES.out HM.out);clear hlt hk;go_wp2_with fail;refine (CE.out _).mono ?_;rintro e w1 ⟨rfl,hb1⟩;have HB1:=zh hb1;clear hb1;go_wp2_with fail;go_ret;exact ⟨by rw [HR.out];rfl,HB.out.trans (HB1.out.mono (by have:=HB.out.size;omega))⟩
