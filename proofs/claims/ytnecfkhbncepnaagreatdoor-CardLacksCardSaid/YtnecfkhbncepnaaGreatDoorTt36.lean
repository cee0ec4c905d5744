/- Merged: SmL. -/
import Derived.Test.YtnecfkhbncepnaaGreatDoorTt28
import Derived.Test.YtnecfkhbncepnaaGreatDoorTt34
set_option maxRecDepth 100000
set_option maxHeartbeats 8000000
namespace Go.Proofs.YtnecfkhbncepnaaGreatDoor
namespace Sm
open Go.Proofs Go.RowKit Go.Shelf Go.Lib Utf Nu Wo
def lt3:List Pr:=[⟨[100,97,116,101],18,[],true,[]⟩,⟨[107,105,110,100],11,[98,105,114,116,104,32,100,101,97,116,104,32,119,101,100,100,105,110,103],true,[]⟩]
def lt4:List Pr:=[⟨[97,100,100,114,101,115,115],1,[],true,[]⟩]
def lt5:List Pr:=[⟨[108,97,110,103,117,97,103,101],10,[],true,[]⟩]
def lt6:List Pr:=[⟨[107,105,110,100],11,[99,111,110,116,97,99,116],false,[]⟩]
def lt7:List Pr:=[⟨[107,105,110,100],11,[108,111,103,111,32,112,104,111,116,111,32,115,111,117,110,100],true,[]⟩]
def qsz:List Pr:=[⟨[110,97,109,101],1,[],true,[]⟩]
def qu6:List Pr:=[⟨[99,114,101,97,116,101,100],7,[],false,[]⟩,⟨[110,111,116,101],1,[],true,[]⟩]
def qrW:List Pr:=[⟨[115,101,114,118,105,99,101],1,[],false,[]⟩,⟨[117,114,105],8,[],false,[]⟩,⟨[117,115,101,114],1,[],false,[]⟩]
def qvc:List Pr:=[⟨[110,97,109,101],1,[],true,[]⟩,⟨[115,111,114,116,65,115],1,[],false,[]⟩]
def quW:List Pr:=[⟨[100,97,121],4,[],false,[]⟩,⟨[109,111,110,116,104],4,[],false,[]⟩,⟨[121,101,97,114],4,[],false,[]⟩]
def qti:List Pr:=[⟨[102,101,97,116,117,114,101,115],17,[102,97,120,32,109,97,105,110,45,110,117,109,98,101,114,32,109,111,98,105,108,101,32,112,97,103,101,114,32,116,101,120,116,32,116,101,120,116,112,104,111,110,101,32,118,105,100,101,111,32,118,111,105,99,101],false,[]⟩,⟨[110,117,109,98,101,114],1,[],true,[]⟩]
def qu8:List Pr:=[⟨[114,101,108,97,116,105,111,110],17,[97,99,113,117,97,105,110,116,97,110,99,101,32,97,103,101,110,116,32,99,104,105,108,100,32,99,111,45,114,101,115,105,100,101,110,116,32,99,111,45,119,111,114,107,101,114,32,99,111,108,108,101,97,103,117,101,32,99,111,110,116,97,99,116,32,99,114,117,115,104,32,100,97,116,101,32,101,109,101,114,103,101,110,99,121,32,102,114,105,101,110,100,32,107,105,110,32,109,101,32,109,101,116,32,109,117,115,101,32,110,101,105,103,104,98,111,114,32,112,97,114,101,110,116,32,115,105,98,108,105,110,103,32,115,112,111,117,115,101,32,115,119,101,101,116,104,101,97,114,116],false,[]⟩]
def quV:List Pr:=[⟨[117,116,99],7,[],true,[]⟩]
def pg0:List Pr:=(qdB++qgK)
def pg1:List Pr:=quE
def pg2:List Pr:=qk5 [97,112,97,114,116,109,101,110,116,32,98,108,111,99,107,32,98,117,105,108,100,105,110,103,32,99,111,117,110,116,114,121,32,100,105,114,101,99,116,105,111,110,32,100,105,115,116,114,105,99,116,32,102,108,111,111,114,32,108,97,110,100,109,97,114,107,32,108,111,99,97,108,105,116,121,32,110,97,109,101,32,110,117,109,98,101,114,32,112,111,115,116,79,102,102,105,99,101,66,111,120,32,112,111,115,116,99,111,100,101,32,114,101,103,105,111,110,32,114,111,111,109,32,115,101,112,97,114,97,116,111,114,32,115,117,98,100,105,115,116,114,105,99,116]
def pg3:List Pr:=lt3
def pg4:List Pr:=(lt4++(cO++qbS))
def pg5:List Pr:=(lt5++(cO))
def pg6:List Pr:=(lt6++(cO++qbS++qjv))
def pg7:List Pr:=(lt7++(cO++qbS++qjv))
def pg8:List Pr:=qgi [78,97,109,101,67,111,109,112,111,110,101,110,116]
def pg9:List Pr:=qk5 [99,114,101,100,101,110,116,105,97,108,32,103,101,110,101,114,97,116,105,111,110,32,103,105,118,101,110,32,103,105,118,101,110,50,32,115,101,112,97,114,97,116,111,114,32,115,117,114,110,97,109,101,32,115,117,114,110,97,109,101,50,32,116,105,116,108,101]
def qtv:List Pr:=(qsz++(cO))
def qpJ:List Pr:=qu6
def qsl:List Pr:=(qrW++(cO++qbS))
def qpZ:List Pr:=qvc
def qsi:List Pr:=qsY
def qpG:List Pr:=quW
def qr5:List Pr:=(qti++(cO++qbS))
def qrg:List Pr:=qu8
def qpE:List Pr:=quV
def qsn:List Pr:=qjS
def qrw:List (List UInt8×List Pr):=[(nm0,pg0),(nm1,pg1),(nm2,pg2),(nm3,pg3),(nm4,pg4),(nm5,pg5),(nm6,pg6),(nm7,pg7),(nm8,pg8),(nm9,pg9),(qfj,qtv),(qfh,qpJ),(qfv,qsl),(qfm,qpZ),(qfa,qsi),(qcE,qpG),(qfl,qr5),(qfo,qrg),(du,qpE),(qfs,qsn)]
def qod (l:List UInt8):List (List UInt8×List Pr)→List Pr
 | []=>[]
 | x::r=>if l=x.1 then x.2 else qod l r
def bA (l:List UInt8):List Pr:=qod l qrw
theorem quj:bA nm0=pg0:=by decide +kernel
theorem quJ:bA nm1=pg1:=by decide +kernel
theorem qt1:bA nm2=pg2:=by decide +kernel
theorem quH:bA nm3=pg3:=by decide +kernel
theorem quO:bA nm4=pg4:=by decide +kernel
theorem qt2:bA nm5=pg5:=by decide +kernel
theorem qug:bA nm6=pg6:=by decide +kernel
theorem quP:bA nm7=pg7:=by decide +kernel
theorem qum:bA nm8=pg8:=by decide +kernel
theorem quG:bA nm9=pg9:=by decide +kernel
theorem qrT:bA qfj=qtv:=by decide +kernel
theorem qtU:bA qfh=qpJ:=by decide +kernel
theorem qtE:bA qfv=qsl:=by decide +kernel
theorem qtK:bA qfm=qpZ:=by decide +kernel
theorem qsC:bA qfa=qsi:=by decide +kernel
theorem qtn:bA qcE=qpG:=by decide +kernel
theorem qtA:bA qfl=qr5:=by decide +kernel
theorem qr1:bA qfo=qrg:=by decide +kernel
theorem qrZ:bA du=qpE:=by decide +kernel
theorem qrN:bA qfs=qsn:=by decide +kernel
theorem qkB {l:List UInt8} (h0:l≠nm0) (h1:l≠nm1) (h2:l≠nm2) (h3:l≠nm3) (h4:l≠nm4) (h5:l≠nm5) (h6:l≠nm6) (h7:l≠nm7) (h8:l≠nm8) (h9:l≠nm9) (h10:l≠qfj) (h11:l≠qfh) (h12:l≠qfv) (h13:l≠qfm) (h14:l≠qfa) (h15:l≠qcE) (h16:l≠qfl) (h17:l≠qfo) (h18:l≠du) (h19:l≠qfs):bA l=[]:=by
 unfold bA qrw;simp only [qod,if_neg h0,if_neg h1,if_neg h2,if_neg h3,if_neg h4,if_neg h5,if_neg h6,if_neg h7,if_neg h8,if_neg h9,if_neg h10,if_neg h11,if_neg h12,if_neg h13,if_neg h14,if_neg h15,if_neg h16,if_neg h17,if_neg h18,if_neg h19]
theorem qdi (l:List UInt8):l∈qcU∨l≠nm0∧l≠nm1∧l≠nm2∧l≠nm3∧l≠nm4∧l≠nm5∧l≠nm6∧l≠nm7∧l≠nm8∧l≠nm9∧l≠qfj∧l≠qfh∧l≠qfv∧l≠qfm∧l≠qfa∧l≠qcE∧l≠qfl∧l≠qfo∧l≠du∧l≠qfs:=by
 by_cases h:l∈qcU
 ·exact .inl h
 ·refine .inr ⟨?_,?_,?_,?_,?_,?_,?_,?_,?_,?_,?_,?_,?_,?_,?_,?_,?_,?_,?_,?_⟩ <;> (intro e;subst e;exact h (by decide +kernel))
theorem qmT:(qcU.all fun l=>(bA l).isPerm (ae l))=true:=by decide +kernel
theorem qld:(qcU.all fun l=>decide (qlU (ae l)))=true:=by decide +kernel
theorem qnd:(qcU.all fun l=>decide ((bA l).length≤30)&&decide (0<(bA l).length))=true:=by decide +kernel
theorem qjo (w0 w2:World) (v1 v2:Value) (L1 L2:List Pr) (o1:w2.ownsRow w0.heap.size 76 5 v1 L1.length (aR L1)) (o2:w2.ownsRow w0.heap.size 76 5 v2 L2.length (aR L2)) (hb:Below w0.heap.size w0 w2) (h0:0<L1.length) (h1:L1.length≤100) (h2:L2.length≤100) :
  Calls Tryz.prog 62 #[.slice (some ⟨w2.heap.size,0,none⟩) 2 2] (w2.alloc (.cells #[v1,v2] 48)) (al 76 (L1++L2) w0):=by
 have r1:=RdP.of_own o1;have r2:=RdP.of_own o2;obtain ⟨W,hW⟩:∃ W,W=w2.alloc (.cells #[v1,v2] 48):=⟨_,rfl⟩
 have b2:Below w2.heap.size w2 W:=by rw [hW];exact (Below.refl _ _).alloc (Nat.le_refl _) _
 have s2:W.heap.size=w2.heap.size+1:=by rw [hW,dW]
 have hrow:W.heap[w2.heap.size]? = some (.cells #[v1,v2] 48 (0,0)):=by rw [hW];exact heap_alloc_new _ _
 obtain ⟨A1,c1,rfl,_⟩:=id r1;obtain ⟨A2,c2,rfl,_⟩:=id r2;rw [←hW];refine (qek w2.heap.size 2 L1.length L2.length c1 c2 A1 A2 L1 L2 W ((r1.below b2 (Nat.le_refl _)).more (by omega)) ((r2.below b2 (Nat.le_refl _)).more (by omega)) ?_ ?_ (by omega) (by omega) h1 h2).mono fun e w' hg=>al.down hg (hb.trans (b2.mono hb.size))
 ·rw [cell_of_row _ _ _ _ _ _ hrow];rfl
 ·rw [cell_of_row _ _ _ _ _ _ hrow];rfl
def ak (l:List UInt8) (w:World) (e:Ending) (w':World):Prop:=
 al 76 (bA l) w e w'∧(bA l=[]→e = .returned (.slice none 0 0)∧w'=w)
theorem qjn (X:ByteArray) (w:World):Calls Tryz.prog 36 #[.string X] w (ak X.data.toList w):=by
 obtain ⟨l,hl⟩:∃ l,X.data.toList=l:=⟨_,rfl⟩
 have hx:X.toList=l:=by rw [ByteArray.toList_eq];exact hl
 have HX:=zh hx;rw [hl];clear hl hx;by_cases h0:l=nm0
 ·have HF:=zh (show ∀ e w',al 76 pg0 w e w'→ak l w e w' from fun e w' h=>by
   unfold ak;rw [h0,quj];exact ⟨h,fun h0=>absurd h0 (by decide)⟩)
  have t0:(X.toList==[67,97,114,100])=true:=by rw [HX.out,h0];rfl
  have p0:X.toList=[67,97,114,100]:=by rw [HX.out,h0];rfl
  clear h0 HX;go_enter Tryz.func36,Tryz.ntmps36;go_wp2_with fail;refine (qjQ _).mono ?_;rintro e w1 ⟨v1,rfl,o1,b1⟩;obtain ⟨A1,c1,rfl,_⟩:=RdP.of_own o1;have O1:=zh o1;have B1:=zh b1;clear o1 b1;go_wp2_with fail;refine (qmG _).mono ?_;rintro e w2 ⟨v2,rfl,o2,b2⟩;obtain ⟨A2,c2,rfl,_⟩:=RdP.of_own o2;have HC:=zh (qjo w w2 _ _ qdB qgK (bt O1.out b2) (qeC o2 B1.out.size) (B1.out.trans (b2.mono B1.out.size)) (by decide) (by decide) (by decide));clear o2 b2;go_wp2_with fail;refine HC.out.mono ?_;rintro e w3 ⟨v,rfl,hown,hb⟩;go_wp2_with fail;go_ret;exact HF.out _ _ ⟨_,rfl,hown,hb⟩
 have t0:(X.toList==[67,97,114,100])=false:=by rw [HX.out];exact beq_eq_false_iff_ne.2 h0
 have p0:¬X.toList=[67,97,114,100]:=by rw [HX.out];exact h0
 by_cases h1:l=nm1
 ·have HF:=zh (show ∀ e w',al 76 pg1 w e w'→ak l w e w' from fun e w' h=>by
   unfold ak;rw [h1,quJ];exact ⟨h,fun h0=>absurd h0 (by decide)⟩)
  have t1:(X.toList==[65,100,100,114,101,115,115])=true:=by rw [HX.out,h1];rfl
  have p1:X.toList=[65,100,100,114,101,115,115]:=by rw [HX.out,h1];rfl
  clear h0 h1 HX;go_enter Tryz.func36,Tryz.ntmps36;go_wp2_with fail;refine (qhS _).mono ?_;rintro e w3 ⟨v,rfl,hown,hb⟩;go_wp2_with fail;go_ret;exact HF.out _ _ ⟨_,rfl,hown,hb⟩
 have t1:(X.toList==[65,100,100,114,101,115,115])=false:=by rw [HX.out];exact beq_eq_false_iff_ne.2 h1
 have p1:¬X.toList=[65,100,100,114,101,115,115]:=by rw [HX.out];exact h1
 by_cases h2:l=nm2
 ·have HF:=zh (show ∀ e w',al 76 pg2 w e w'→ak l w e w' from fun e w' h=>by
   unfold ak;rw [h2,qt1];exact ⟨h,fun h0=>absurd h0 (by decide)⟩)
  have t2:(X.toList==[65,100,100,114,101,115,115,67,111,109,112,111,110,101,110,116])=true:=by rw [HX.out,h2];rfl
  have p2:X.toList=[65,100,100,114,101,115,115,67,111,109,112,111,110,101,110,116]:=by rw [HX.out,h2];rfl
  have HC:=zh (fun W=>qbv ⟨#[97,112,97,114,116,109,101,110,116,32,98,108,111,99,107,32,98,117,105,108,100,105,110,103,32,99,111,117,110,116,114,121,32,100,105,114,101,99,116,105,111,110,32,100,105,115,116,114,105,99,116,32,102,108,111,111,114,32,108,97,110,100,109,97,114,107,32,108,111,99,97,108,105,116,121,32,110,97,109,101,32,110,117,109,98,101,114,32,112,111,115,116,79,102,102,105,99,101,66,111,120,32,112,111,115,116,99,111,100,101,32,114,101,103,105,111,110,32,114,111,111,109,32,115,101,112,97,114,97,116,111,114,32,115,117,98,100,105,115,116,114,105,99,116]⟩ W);clear h0 h1 h2 HX;go_enter Tryz.func36,Tryz.ntmps36;go_wp2_with fail;refine (HC.out _).mono ?_;rintro e w3 ⟨v,rfl,hown,hb⟩;go_wp2_with fail;go_ret;exact HF.out _ _ ⟨_,rfl,hown,hb⟩
 have t2:(X.toList==[65,100,100,114,101,115,115,67,111,109,112,111,110,101,110,116])=false:=by rw [HX.out];exact beq_eq_false_iff_ne.2 h2
 have p2:¬X.toList=[65,100,100,114,101,115,115,67,111,109,112,111,110,101,110,116]:=by rw [HX.out];exact h2
 by_cases h3:l=nm3
 ·have HF:=zh (show ∀ e w',al 76 pg3 w e w'→ak l w e w' from fun e w' h=>by
   unfold ak;rw [h3,quH];exact ⟨h,fun h0=>absurd h0 (by decide)⟩)
  have t3:(X.toList==[65,110,110,105,118,101,114,115,97,114,121])=true:=by rw [HX.out,h3];rfl
  have p3:X.toList=[65,110,110,105,118,101,114,115,97,114,121]:=by rw [HX.out,h3];rfl
  clear h0 h1 h2 h3 HX;go_enter Tryz.func36,Tryz.ntmps36;go_wp2_with fail;go_ret;exact HF.out _ _ (b8 w pg3 _ _ _ (by kernel_rfl) rfl (by decide))
 have t3:(X.toList==[65,110,110,105,118,101,114,115,97,114,121])=false:=by rw [HX.out];exact beq_eq_false_iff_ne.2 h3
 have p3:¬X.toList=[65,110,110,105,118,101,114,115,97,114,121]:=by rw [HX.out];exact h3
 by_cases h4:l=nm4
 ·have HF:=zh (show ∀ e w',al 76 pg4 w e w'→ak l w e w' from fun e w' h=>by
   unfold ak;rw [h4,quO];exact ⟨h,fun h0=>absurd h0 (by decide)⟩)
  have t4:(X.toList==[69,109,97,105,108,65,100,100,114,101,115,115])=true:=by rw [HX.out,h4];rfl
  have p4:X.toList=[69,109,97,105,108,65,100,100,114,101,115,115]:=by rw [HX.out,h4];rfl
  have HC:=zh (fun W=>qaj lt4 (aR lt4).toArray 1 W rfl rfl (by decide));clear h0 h1 h2 h3 h4 HX;go_enter Tryz.func36,Tryz.ntmps36;go_wp2_with fail;refine (HC.out _).mono ?_;rintro e w3 ⟨v,rfl,hown,hb⟩;go_wp2_with fail;go_ret;exact HF.out _ _ ⟨_,rfl,hown,hb⟩
 have t4:(X.toList==[69,109,97,105,108,65,100,100,114,101,115,115])=false:=by rw [HX.out];exact beq_eq_false_iff_ne.2 h4
 have p4:¬X.toList=[69,109,97,105,108,65,100,100,114,101,115,115]:=by rw [HX.out];exact h4
 by_cases h5:l=nm5
 ·have HF:=zh (show ∀ e w',al 76 pg5 w e w'→ak l w e w' from fun e w' h=>by
   unfold ak;rw [h5,qt2];exact ⟨h,fun h0=>absurd h0 (by decide)⟩)
  have t5:(X.toList==[76,97,110,103,117,97,103,101,80,114,101,102])=true:=by rw [HX.out,h5];rfl
  have p5:X.toList=[76,97,110,103,117,97,103,101,80,114,101,102]:=by rw [HX.out,h5];rfl
  have HC:=zh (fun W=>qbw lt5 (aR lt5).toArray 1 W rfl rfl (by decide));clear h0 h1 h2 h3 h4 h5 HX;go_enter Tryz.func36,Tryz.ntmps36;go_wp2_with fail;refine (HC.out _).mono ?_;rintro e w3 ⟨v,rfl,hown,hb⟩;go_wp2_with fail;go_ret;exact HF.out _ _ ⟨_,rfl,hown,hb⟩
 have t5:(X.toList==[76,97,110,103,117,97,103,101,80,114,101,102])=false:=by rw [HX.out];exact beq_eq_false_iff_ne.2 h5
 have p5:¬X.toList=[76,97,110,103,117,97,103,101,80,114,101,102]:=by rw [HX.out];exact h5
 by_cases h6:l=nm6
 ·have HF:=zh (show ∀ e w',al 76 pg6 w e w'→ak l w e w' from fun e w' h=>by
   unfold ak;rw [h6,qug];exact ⟨h,fun h0=>absurd h0 (by decide)⟩)
  have t6:(X.toList==[76,105,110,107])=true:=by rw [HX.out,h6];rfl
  have p6:X.toList=[76,105,110,107]:=by rw [HX.out,h6];rfl
  have HC:=zh (fun W=>qcn lt6 (aR lt6).toArray 1 W rfl rfl (by decide));clear h0 h1 h2 h3 h4 h5 h6 HX;go_enter Tryz.func36,Tryz.ntmps36;go_wp2_with fail;refine (HC.out _).mono ?_;rintro e w3 ⟨v,rfl,hown,hb⟩;go_wp2_with fail;go_ret;exact HF.out _ _ ⟨_,rfl,hown,hb⟩
 have t6:(X.toList==[76,105,110,107])=false:=by rw [HX.out];exact beq_eq_false_iff_ne.2 h6
 have p6:¬X.toList=[76,105,110,107]:=by rw [HX.out];exact h6
 by_cases h7:l=nm7
 ·have HF:=zh (show ∀ e w',al 76 pg7 w e w'→ak l w e w' from fun e w' h=>by
   unfold ak;rw [h7,quP];exact ⟨h,fun h0=>absurd h0 (by decide)⟩)
  have t7:(X.toList==[77,101,100,105,97])=true:=by rw [HX.out,h7];rfl
  have p7:X.toList=[77,101,100,105,97]:=by rw [HX.out,h7];rfl
  have HC:=zh (fun W=>qcn lt7 (aR lt7).toArray 1 W rfl rfl (by decide));clear h0 h1 h2 h3 h4 h5 h6 h7 HX;go_enter Tryz.func36,Tryz.ntmps36;go_wp2_with fail;refine (HC.out _).mono ?_;rintro e w3 ⟨v,rfl,hown,hb⟩;go_wp2_with fail;go_ret;exact HF.out _ _ ⟨_,rfl,hown,hb⟩
 have t7:(X.toList==[77,101,100,105,97])=false:=by rw [HX.out];exact beq_eq_false_iff_ne.2 h7
 have p7:¬X.toList=[77,101,100,105,97]:=by rw [HX.out];exact h7
 by_cases h8:l=nm8
 ·have HF:=zh (show ∀ e w',al 76 pg8 w e w'→ak l w e w' from fun e w' h=>by
   unfold ak;rw [h8,qum];exact ⟨h,fun h0=>absurd h0 (by decide)⟩)
  have t8:(X.toList==[78,97,109,101])=true:=by rw [HX.out,h8];rfl
  have p8:X.toList=[78,97,109,101]:=by rw [HX.out,h8];rfl
  have HC:=zh (fun W=>qdM ⟨#[78,97,109,101,67,111,109,112,111,110,101,110,116]⟩ 0 0 none [] W ⟨none,0,rfl,fun h=>by simp at h⟩ (by decide));clear h0 h1 h2 h3 h4 h5 h6 h7 h8 HX;go_enter Tryz.func36,Tryz.ntmps36;go_wp2_with fail;refine (HC.out _).mono ?_;rintro e w3 ⟨v,rfl,hown,hb⟩;go_wp2_with fail;go_ret;exact HF.out _ _ ⟨_,rfl,hown,hb⟩
 have t8:(X.toList==[78,97,109,101])=false:=by rw [HX.out];exact beq_eq_false_iff_ne.2 h8
 have p8:¬X.toList=[78,97,109,101]:=by rw [HX.out];exact h8
 by_cases h9:l=nm9
 ·have HF:=zh (show ∀ e w',al 76 pg9 w e w'→ak l w e w' from fun e w' h=>by
   unfold ak;rw [h9,quG];exact ⟨h,fun h0=>absurd h0 (by decide)⟩)
  have t9:(X.toList==[78,97,109,101,67,111,109,112,111,110,101,110,116])=true:=by rw [HX.out,h9];rfl
  have p9:X.toList=[78,97,109,101,67,111,109,112,111,110,101,110,116]:=by rw [HX.out,h9];rfl
  have HC:=zh (fun W=>qbv ⟨#[99,114,101,100,101,110,116,105,97,108,32,103,101,110,101,114,97,116,105,111,110,32,103,105,118,101,110,32,103,105,118,101,110,50,32,115,101,112,97,114,97,116,111,114,32,115,117,114,110,97,109,101,32,115,117,114,110,97,109,101,50,32,116,105,116,108,101]⟩ W);clear h0 h1 h2 h3 h4 h5 h6 h7 h8 h9 HX;go_enter Tryz.func36,Tryz.ntmps36;go_wp2_with fail;refine (HC.out _).mono ?_;rintro e w3 ⟨v,rfl,hown,hb⟩;go_wp2_with fail;go_ret;exact HF.out _ _ ⟨_,rfl,hown,hb⟩
 have t9:(X.toList==[78,97,109,101,67,111,109,112,111,110,101,110,116])=false:=by rw [HX.out];exact beq_eq_false_iff_ne.2 h9
 have p9:¬X.toList=[78,97,109,101,67,111,109,112,111,110,101,110,116]:=by rw [HX.out];exact h9
 by_cases h10:l=qfj
 ·have HF:=zh (show ∀ e w',al 76 qtv w e w'→ak l w e w' from fun e w' h=>by
   unfold ak;rw [h10,qrT];exact ⟨h,fun h0=>absurd h0 (by decide)⟩)
  have t10:(X.toList==[78,105,99,107,110,97,109,101])=true:=by rw [HX.out,h10];rfl
  have p10:X.toList=[78,105,99,107,110,97,109,101]:=by rw [HX.out,h10];rfl
  have HC:=zh (fun W=>qbw qsz (aR qsz).toArray 1 W rfl rfl (by decide));clear h0 h1 h2 h3 h4 h5 h6 h7 h8 h9 h10 HX;go_enter Tryz.func36,Tryz.ntmps36;go_wp2_with fail;refine (HC.out _).mono ?_;rintro e w3 ⟨v,rfl,hown,hb⟩;go_wp2_with fail;go_ret;exact HF.out _ _ ⟨_,rfl,hown,hb⟩
 have t10:(X.toList==[78,105,99,107,110,97,109,101])=false:=by rw [HX.out];exact beq_eq_false_iff_ne.2 h10
 have p10:¬X.toList=[78,105,99,107,110,97,109,101]:=by rw [HX.out];exact h10
 by_cases h11:l=qfh
 ·have HF:=zh (show ∀ e w',al 76 qpJ w e w'→ak l w e w' from fun e w' h=>by
   unfold ak;rw [h11,qtU];exact ⟨h,fun h0=>absurd h0 (by decide)⟩)
  have t11:(X.toList==[78,111,116,101])=true:=by rw [HX.out,h11];rfl
  have p11:X.toList=[78,111,116,101]:=by rw [HX.out,h11];rfl
  clear h0 h1 h2 h3 h4 h5 h6 h7 h8 h9 h10 h11 HX;go_enter Tryz.func36,Tryz.ntmps36;go_wp2_with fail;go_ret;exact HF.out _ _ (b8 w qpJ _ _ _ (by kernel_rfl) rfl (by decide))
 have t11:(X.toList==[78,111,116,101])=false:=by rw [HX.out];exact beq_eq_false_iff_ne.2 h11
 have p11:¬X.toList=[78,111,116,101]:=by rw [HX.out];exact h11
 by_cases h12:l=qfv
 ·have HF:=zh (show ∀ e w',al 76 qsl w e w'→ak l w e w' from fun e w' h=>by
   unfold ak;rw [h12,qtE];exact ⟨h,fun h0=>absurd h0 (by decide)⟩)
  have t12:(X.toList==[79,110,108,105,110,101,83,101,114,118,105,99,101])=true:=by rw [HX.out,h12];rfl
  have p12:X.toList=[79,110,108,105,110,101,83,101,114,118,105,99,101]:=by rw [HX.out,h12];rfl
  have HC:=zh (fun W=>qaj qrW (aR qrW).toArray 3 W rfl rfl (by decide));clear h0 h1 h2 h3 h4 h5 h6 h7 h8 h9 h10 h11 h12 HX;go_enter Tryz.func36,Tryz.ntmps36;go_wp2_with fail;refine (HC.out _).mono ?_;rintro e w3 ⟨v,rfl,hown,hb⟩;go_wp2_with fail;go_ret;exact HF.out _ _ ⟨_,rfl,hown,hb⟩
 have t12:(X.toList==[79,110,108,105,110,101,83,101,114,118,105,99,101])=false:=by rw [HX.out];exact beq_eq_false_iff_ne.2 h12
 have p12:¬X.toList=[79,110,108,105,110,101,83,101,114,118,105,99,101]:=by rw [HX.out];exact h12
 by_cases h13:l=qfm
 ·have HF:=zh (show ∀ e w',al 76 qpZ w e w'→ak l w e w' from fun e w' h=>by
   unfold ak;rw [h13,qtK];exact ⟨h,fun h0=>absurd h0 (by decide)⟩)
  have t13:(X.toList==[79,114,103,85,110,105,116])=true:=by rw [HX.out,h13];rfl
  have p13:X.toList=[79,114,103,85,110,105,116]:=by rw [HX.out,h13];rfl
  clear h0 h1 h2 h3 h4 h5 h6 h7 h8 h9 h10 h11 h12 h13 HX;go_enter Tryz.func36,Tryz.ntmps36;go_wp2_with fail;go_ret;exact HF.out _ _ (b8 w qpZ _ _ _ (by kernel_rfl) rfl (by decide))
 have t13:(X.toList==[79,114,103,85,110,105,116])=false:=by rw [HX.out];exact beq_eq_false_iff_ne.2 h13
 have p13:¬X.toList=[79,114,103,85,110,105,116]:=by rw [HX.out];exact h13
 by_cases h14:l=qfa
 ·have HF:=zh (show ∀ e w',al 76 qsi w e w'→ak l w e w' from fun e w' h=>by
   unfold ak;rw [h14,qsC];exact ⟨h,fun h0=>absurd h0 (by decide)⟩)
  have t14:(X.toList==[79,114,103,97,110,105,122,97,116,105,111,110])=true:=by rw [HX.out,h14];rfl
  have p14:X.toList=[79,114,103,97,110,105,122,97,116,105,111,110]:=by rw [HX.out,h14];rfl
  clear h0 h1 h2 h3 h4 h5 h6 h7 h8 h9 h10 h11 h12 h13 h14 HX;go_enter Tryz.func36,Tryz.ntmps36;go_wp2_with fail;refine (qqT _).mono ?_;rintro e w3 ⟨v,rfl,hown,hb⟩;go_wp2_with fail;go_ret;exact HF.out _ _ ⟨_,rfl,hown,hb⟩
 have t14:(X.toList==[79,114,103,97,110,105,122,97,116,105,111,110])=false:=by rw [HX.out];exact beq_eq_false_iff_ne.2 h14
 have p14:¬X.toList=[79,114,103,97,110,105,122,97,116,105,111,110]:=by rw [HX.out];exact h14
 by_cases h15:l=qcE
 ·have HF:=zh (show ∀ e w',al 76 qpG w e w'→ak l w e w' from fun e w' h=>by
   unfold ak;rw [h15,qtn];exact ⟨h,fun h0=>absurd h0 (by decide)⟩)
  have t15:(X.toList==[80,97,114,116,105,97,108,68,97,116,101])=true:=by rw [HX.out,h15];rfl
  have p15:X.toList=[80,97,114,116,105,97,108,68,97,116,101]:=by rw [HX.out,h15];rfl
  clear h0 h1 h2 h3 h4 h5 h6 h7 h8 h9 h10 h11 h12 h13 h14 h15 HX;go_enter Tryz.func36,Tryz.ntmps36;go_wp2_with fail;go_ret;exact HF.out _ _ (b8 w qpG _ _ _ (by kernel_rfl) rfl (by decide))
 have t15:(X.toList==[80,97,114,116,105,97,108,68,97,116,101])=false:=by rw [HX.out];exact beq_eq_false_iff_ne.2 h15
 have p15:¬X.toList=[80,97,114,116,105,97,108,68,97,116,101]:=by rw [HX.out];exact h15
 by_cases h16:l=qfl
 ·have HF:=zh (show ∀ e w',al 76 qr5 w e w'→ak l w e w' from fun e w' h=>by
   unfold ak;rw [h16,qtA];exact ⟨h,fun h0=>absurd h0 (by decide)⟩)
  have t16:(X.toList==[80,104,111,110,101])=true:=by rw [HX.out,h16];rfl
  have p16:X.toList=[80,104,111,110,101]:=by rw [HX.out,h16];rfl
  have HC:=zh (fun W=>qaj qti (aR qti).toArray 2 W rfl rfl (by decide));clear h0 h1 h2 h3 h4 h5 h6 h7 h8 h9 h10 h11 h12 h13 h14 h15 h16 HX;go_enter Tryz.func36,Tryz.ntmps36;go_wp2_with fail;refine (HC.out _).mono ?_;rintro e w3 ⟨v,rfl,hown,hb⟩;go_wp2_with fail;go_ret;exact HF.out _ _ ⟨_,rfl,hown,hb⟩
 have t16:(X.toList==[80,104,111,110,101])=false:=by rw [HX.out];exact beq_eq_false_iff_ne.2 h16
 have p16:¬X.toList=[80,104,111,110,101]:=by rw [HX.out];exact h16
 by_cases h17:l=qfo
 ·have HF:=zh (show ∀ e w',al 76 qrg w e w'→ak l w e w' from fun e w' h=>by
   unfold ak;rw [h17,qr1];exact ⟨h,fun h0=>absurd h0 (by decide)⟩)
  have t17:(X.toList==[82,101,108,97,116,105,111,110])=true:=by rw [HX.out,h17];rfl
  have p17:X.toList=[82,101,108,97,116,105,111,110]:=by rw [HX.out,h17];rfl
  clear h0 h1 h2 h3 h4 h5 h6 h7 h8 h9 h10 h11 h12 h13 h14 h15 h16 h17 HX;go_enter Tryz.func36,Tryz.ntmps36;go_wp2_with fail;go_ret;exact HF.out _ _ (b8 w qrg _ _ _ (by kernel_rfl) rfl (by decide))
 have t17:(X.toList==[82,101,108,97,116,105,111,110])=false:=by rw [HX.out];exact beq_eq_false_iff_ne.2 h17
 have p17:¬X.toList=[82,101,108,97,116,105,111,110]:=by rw [HX.out];exact h17
 by_cases h18:l=du
 ·have HF:=zh (show ∀ e w',al 76 qpE w e w'→ak l w e w' from fun e w' h=>by
   unfold ak;rw [h18,qrZ];exact ⟨h,fun h0=>absurd h0 (by decide)⟩)
  have t18:(X.toList==[84,105,109,101,115,116,97,109,112])=true:=by rw [HX.out,h18];rfl
  have p18:X.toList=[84,105,109,101,115,116,97,109,112]:=by rw [HX.out,h18];rfl
  clear h0 h1 h2 h3 h4 h5 h6 h7 h8 h9 h10 h11 h12 h13 h14 h15 h16 h17 h18 HX;go_enter Tryz.func36,Tryz.ntmps36;go_wp2_with fail;go_ret;exact HF.out _ _ (b8 w qpE _ _ _ (by kernel_rfl) rfl (by decide))
 have t18:(X.toList==[84,105,109,101,115,116,97,109,112])=false:=by rw [HX.out];exact beq_eq_false_iff_ne.2 h18
 have p18:¬X.toList=[84,105,109,101,115,116,97,109,112]:=by rw [HX.out];exact h18
 by_cases h19:l=qfs
 ·have HF:=zh (show ∀ e w',al 76 qsn w e w'→ak l w e w' from fun e w' h=>by
   unfold ak;rw [h19,qrN];exact ⟨h,fun h0=>absurd h0 (by decide)⟩)
  have t19:(X.toList==[84,105,116,108,101])=true:=by rw [HX.out,h19];rfl
  have p19:X.toList=[84,105,116,108,101]:=by rw [HX.out,h19];rfl
  clear h0 h1 h2 h3 h4 h5 h6 h7 h8 h9 h10 h11 h12 h13 h14 h15 h16 h17 h18 h19 HX;go_enter Tryz.func36,Tryz.ntmps36;go_wp2_with fail;refine (ql3 _).mono ?_;rintro e w3 ⟨v,rfl,hown,hb⟩;go_wp2_with fail;go_ret;exact HF.out _ _ ⟨_,rfl,hown,hb⟩
 have t19:(X.toList==[84,105,116,108,101])=false:=by rw [HX.out];exact beq_eq_false_iff_ne.2 h19
 have p19:¬X.toList=[84,105,116,108,101]:=by rw [HX.out];exact h19
 have HT:=zh (show bA l=[] from qkB h0 h1 h2 h3 h4 h5 h6 h7 h8 h9 h10 h11 h12 h13 h14 h15 h16 h17 h18 h19);clear h0 h1 h2 h3 h4 h5 h6 h7 h8 h9 h10 h11 h12 h13 h14 h15 h16 h17 h18 h19 HX;go_enter Tryz.func36,Tryz.ntmps36;go_wp2_with fail;go_ret;unfold ak;rw [HT.out];exact ⟨⟨_,rfl,World.ownsRow_nil _ _ _ _,Below.refl _ _⟩,fun _=>⟨rfl,rfl⟩⟩
