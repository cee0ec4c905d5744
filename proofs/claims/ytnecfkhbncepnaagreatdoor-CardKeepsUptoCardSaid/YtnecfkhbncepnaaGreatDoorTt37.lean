/- Merged: SmL. -/
import Derived.Test.YtnecfkhbncepnaaGreatDoorTt29
import Derived.Test.YtnecfkhbncepnaaGreatDoorTt35
set_option maxRecDepth 100000
set_option maxHeartbeats 8000000
namespace Go.Proofs.YtnecfkhbncepnaaGreatDoor
namespace Sm
open Go.Proofs Go.RowKit Go.Shelf Go.Lib Utf Nu Wo
def lt3:List Pr:=[⟨[100,97,116,101],18,[],true,[]⟩,⟨[107,105,110,100],11,[98,105,114,116,104,32,100,101,97,116,104,32,119,101,100,100,105,110,103],true,[]⟩]
def lt4:List Pr:=[⟨[97,100,100,114,101,115,115],1,[],true,[]⟩]
def lt5:List Pr:=[⟨[108,97,110,103,117,97,103,101],10,[],true,[]⟩]
def lt6:List Pr:=[⟨[107,105,110,100],11,[99,111,110,116,97,99,116],false,[]⟩]
def lt7:List Pr:=[⟨[107,105,110,100],11,[108,111,103,111,32,112,104,111,116,111,32,115,111,117,110,100],true,[]⟩]
def qrR:List Pr:=[⟨[110,97,109,101],1,[],true,[]⟩]
def quz:List Pr:=[⟨[99,114,101,97,116,101,100],7,[],false,[]⟩,⟨[110,111,116,101],1,[],true,[]⟩]
def qsa:List Pr:=[⟨[115,101,114,118,105,99,101],1,[],false,[]⟩,⟨[117,114,105],8,[],false,[]⟩,⟨[117,115,101,114],1,[],false,[]⟩]
def quv:List Pr:=[⟨[110,97,109,101],1,[],true,[]⟩,⟨[115,111,114,116,65,115],1,[],false,[]⟩]
def qus:List Pr:=[⟨[100,97,121],4,[],false,[]⟩,⟨[109,111,110,116,104],4,[],false,[]⟩,⟨[121,101,97,114],4,[],false,[]⟩]
def qrG:List Pr:=[⟨[102,101,97,116,117,114,101,115],17,[102,97,120,32,109,97,105,110,45,110,117,109,98,101,114,32,109,111,98,105,108,101,32,112,97,103,101,114,32,116,101,120,116,32,116,101,120,116,112,104,111,110,101,32,118,105,100,101,111,32,118,111,105,99,101],false,[]⟩,⟨[110,117,109,98,101,114],1,[],true,[]⟩]
def qui:List Pr:=[⟨[114,101,108,97,116,105,111,110],17,[97,99,113,117,97,105,110,116,97,110,99,101,32,97,103,101,110,116,32,99,104,105,108,100,32,99,111,45,114,101,115,105,100,101,110,116,32,99,111,45,119,111,114,107,101,114,32,99,111,108,108,101,97,103,117,101,32,99,111,110,116,97,99,116,32,99,114,117,115,104,32,100,97,116,101,32,101,109,101,114,103,101,110,99,121,32,102,114,105,101,110,100,32,107,105,110,32,109,101,32,109,101,116,32,109,117,115,101,32,110,101,105,103,104,98,111,114,32,112,97,114,101,110,116,32,115,105,98,108,105,110,103,32,115,112,111,117,115,101,32,115,119,101,101,116,104,101,97,114,116],false,[]⟩]
def quu:List Pr:=[⟨[117,116,99],7,[],true,[]⟩]
def pg0:List Pr:=(qds++qfU)
def pg1:List Pr:=qt3
def pg2:List Pr:=qkj [97,112,97,114,116,109,101,110,116,32,98,108,111,99,107,32,98,117,105,108,100,105,110,103,32,99,111,117,110,116,114,121,32,100,105,114,101,99,116,105,111,110,32,100,105,115,116,114,105,99,116,32,102,108,111,111,114,32,108,97,110,100,109,97,114,107,32,108,111,99,97,108,105,116,121,32,110,97,109,101,32,110,117,109,98,101,114,32,112,111,115,116,79,102,102,105,99,101,66,111,120,32,112,111,115,116,99,111,100,101,32,114,101,103,105,111,110,32,114,111,111,109,32,115,101,112,97,114,97,116,111,114,32,115,117,98,100,105,115,116,114,105,99,116]
def pg3:List Pr:=lt3
def pg4:List Pr:=(lt4++(cC++qbH))
def pg5:List Pr:=(lt5++(cC))
def pg6:List Pr:=(lt6++(cC++qbH++qjv))
def pg7:List Pr:=(lt7++(cC++qbH++qjv))
def pg8:List Pr:=qfx [78,97,109,101,67,111,109,112,111,110,101,110,116]
def pg9:List Pr:=qkj [99,114,101,100,101,110,116,105,97,108,32,103,101,110,101,114,97,116,105,111,110,32,103,105,118,101,110,32,103,105,118,101,110,50,32,115,101,112,97,114,97,116,111,114,32,115,117,114,110,97,109,101,32,115,117,114,110,97,109,101,50,32,116,105,116,108,101]
def qry:List Pr:=(qrR++(cC))
def qpz:List Pr:=quz
def qr0:List Pr:=(qsa++(cC++qbH))
def qp6:List Pr:=quv
def qs9:List Pr:=qtq
def qqh:List Pr:=qus
def qrL:List Pr:=(qrG++(cC++qbH))
def qp1:List Pr:=qui
def qqH:List Pr:=quu
def qsu:List Pr:=qiT
def qrt:List (List UInt8×List Pr):=[(nm0,pg0),(nm1,pg1),(nm2,pg2),(nm3,pg3),(nm4,pg4),(nm5,pg5),(nm6,pg6),(nm7,pg7),(nm8,pg8),(nm9,pg9),(qhC,qry),(qh6,qpz),(qhV,qr0),(qik,qp6),(qh2,qs9),(qdT,qqh),(qir,qrL),(qhn,qp1),(dF,qqH),(qit,qsu)]
def qnx (l:List UInt8):List (List UInt8×List Pr)→List Pr
 | []=>[]
 | x::r=>if l=x.1 then x.2 else qnx l r
def bq (l:List UInt8):List Pr:=qnx l qrt
theorem qud:bq nm0=pg0:=by decide +kernel
theorem qt5:bq nm1=pg1:=by decide +kernel
theorem qtM:bq nm2=pg2:=by decide +kernel
theorem qtQ:bq nm3=pg3:=by decide +kernel
theorem qt1:bq nm4=pg4:=by decide +kernel
theorem qtC:bq nm5=pg5:=by decide +kernel
theorem qtY:bq nm6=pg6:=by decide +kernel
theorem qt0:bq nm7=pg7:=by decide +kernel
theorem qtP:bq nm8=pg8:=by decide +kernel
theorem qtD:bq nm9=pg9:=by decide +kernel
theorem qsR:bq qhC=qry:=by decide +kernel
theorem qsz:bq qh6=qpz:=by decide +kernel
theorem qr5:bq qhV=qr0:=by decide +kernel
theorem qst:bq qik=qp6:=by decide +kernel
theorem qsl:bq qh2=qs9:=by decide +kernel
theorem qsG:bq qdT=qqh:=by decide +kernel
theorem qrO:bq qir=qrL:=by decide +kernel
theorem qtf:bq qhn=qp1:=by decide +kernel
theorem qsS:bq dF=qqH:=by decide +kernel
theorem qrx:bq qit=qsu:=by decide +kernel
theorem qkr {l:List UInt8} (h0:l≠nm0) (h1:l≠nm1) (h2:l≠nm2) (h3:l≠nm3) (h4:l≠nm4) (h5:l≠nm5) (h6:l≠nm6) (h7:l≠nm7) (h8:l≠nm8) (h9:l≠nm9) (h10:l≠qhC) (h11:l≠qh6) (h12:l≠qhV) (h13:l≠qik) (h14:l≠qh2) (h15:l≠qdT) (h16:l≠qir) (h17:l≠qhn) (h18:l≠dF) (h19:l≠qit):bq l=[]:=by
 unfold bq qrt;simp only [qnx,if_neg h0,if_neg h1,if_neg h2,if_neg h3,if_neg h4,if_neg h5,if_neg h6,if_neg h7,if_neg h8,if_neg h9,if_neg h10,if_neg h11,if_neg h12,if_neg h13,if_neg h14,if_neg h15,if_neg h16,if_neg h17,if_neg h18,if_neg h19]
theorem qdf (l:List UInt8):l∈qcT∨l≠nm0∧l≠nm1∧l≠nm2∧l≠nm3∧l≠nm4∧l≠nm5∧l≠nm6∧l≠nm7∧l≠nm8∧l≠nm9∧l≠qhC∧l≠qh6∧l≠qhV∧l≠qik∧l≠qh2∧l≠qdT∧l≠qir∧l≠qhn∧l≠dF∧l≠qit:=by
 by_cases h:l∈qcT
 ·exact .inl h
 ·refine .inr ⟨?_,?_,?_,?_,?_,?_,?_,?_,?_,?_,?_,?_,?_,?_,?_,?_,?_,?_,?_,?_⟩ <;> (intro e;subst e;exact h (by decide +kernel))
theorem ql3:(qcT.all fun l=>(bq l).isPerm (af l))=true:=by decide +kernel
theorem qly:(qcT.all fun l=>decide (qmB (af l)))=true:=by decide +kernel
theorem qoS:(qcT.all fun l=>decide ((bq l).length≤30)&&decide (0<(bq l).length))=true:=by decide +kernel
theorem qjE (w0 w2:World) (v1 v2:Value) (L1 L2:List Pr) (o1:w2.ownsRow w0.heap.size 76 5 v1 L1.length (aR L1)) (o2:w2.ownsRow w0.heap.size 76 5 v2 L2.length (aR L2)) (hb:Below w0.heap.size w0 w2) (h0:0<L1.length) (h1:L1.length≤100) (h2:L2.length≤100) :
  Calls Tryz.prog 62 #[.slice (some ⟨w2.heap.size,0,none⟩) 2 2] (w2.alloc (.cells #[v1,v2] 48)) (ai 76 (L1++L2) w0):=by
 have r1:=RdP.of_own o1;have r2:=RdP.of_own o2;obtain ⟨W,hW⟩:∃ W,W=w2.alloc (.cells #[v1,v2] 48):=⟨_,rfl⟩
 have b2:Below w2.heap.size w2 W:=by rw [hW];exact (Below.refl _ _).alloc (Nat.le_refl _) _
 have s2:W.heap.size=w2.heap.size+1:=by rw [hW,qao]
 have hrow:W.heap[w2.heap.size]? = some (.cells #[v1,v2] 48 (0,0)):=by rw [hW];exact heap_alloc_new _ _
 obtain ⟨A1,c1,rfl,_⟩:=id r1;obtain ⟨A2,c2,rfl,_⟩:=id r2;rw [←hW];refine (qes w2.heap.size 2 L1.length L2.length c1 c2 A1 A2 L1 L2 W ((r1.below b2 (Nat.le_refl _)).more (by omega)) ((r2.below b2 (Nat.le_refl _)).more (by omega)) ?_ ?_ (by omega) (by omega) h1 h2).mono fun e w' hg=>ai.down hg (hb.trans (b2.mono hb.size))
 ·rw [cell_of_row _ _ _ _ _ _ hrow];rfl
 ·rw [cell_of_row _ _ _ _ _ _ hrow];rfl
def ah (l:List UInt8) (w:World) (e:Ending) (w':World):Prop:=
 ai 76 (bq l) w e w'∧(bq l=[]→e = .returned (.slice none 0 0)∧w'=w)
theorem qjf (X:ByteArray) (w:World):Calls Tryz.prog 36 #[.string X] w (ah X.data.toList w):=by
 obtain ⟨l,hl⟩:∃ l,X.data.toList=l:=⟨_,rfl⟩
 have hx:X.toList=l:=by rw [ByteArray.toList_eq];exact hl
 have HX:=zh hx;rw [hl];clear hl hx;by_cases h0:l=nm0
 ·have HF:=zh (show ∀ e w',ai 76 pg0 w e w'→ah l w e w' from fun e w' h=>by
   unfold ah;rw [h0,qud];exact ⟨h,fun h0=>absurd h0 (by decide)⟩)
  have t0:(X.toList==[67,97,114,100])=true:=by rw [HX.out,h0];rfl
  have p0:X.toList=[67,97,114,100]:=by rw [HX.out,h0];rfl
  clear h0 HX;go_enter Tryz.func36,Tryz.ntmps36;go_wp2_with fail;refine (qjz _).mono ?_;rintro e w1 ⟨v1,rfl,o1,b1⟩;obtain ⟨A1,c1,rfl,_⟩:=RdP.of_own o1;have O1:=zh o1;have B1:=zh b1;clear o1 b1;go_wp2_with fail;refine (qlo _).mono ?_;rintro e w2 ⟨v2,rfl,o2,b2⟩;obtain ⟨A2,c2,rfl,_⟩:=RdP.of_own o2;have HC:=zh (qjE w w2 _ _ qds qfU (bD O1.out b2) (qhO o2 B1.out.size) (B1.out.trans (b2.mono B1.out.size)) (by decide) (by decide) (by decide));clear o2 b2;go_wp2_with fail;refine HC.out.mono ?_;rintro e w3 ⟨v,rfl,hown,hb⟩;go_wp2_with fail;go_ret;exact HF.out _ _ ⟨_,rfl,hown,hb⟩
 have t0:(X.toList==[67,97,114,100])=false:=by rw [HX.out];exact beq_eq_false_iff_ne.2 h0
 have p0:¬X.toList=[67,97,114,100]:=by rw [HX.out];exact h0
 by_cases h1:l=nm1
 ·have HF:=zh (show ∀ e w',ai 76 pg1 w e w'→ah l w e w' from fun e w' h=>by
   unfold ah;rw [h1,qt5];exact ⟨h,fun h0=>absurd h0 (by decide)⟩)
  have t1:(X.toList==[65,100,100,114,101,115,115])=true:=by rw [HX.out,h1];rfl
  have p1:X.toList=[65,100,100,114,101,115,115]:=by rw [HX.out,h1];rfl
  clear h0 h1 HX;go_enter Tryz.func36,Tryz.ntmps36;go_wp2_with fail;refine (qg2 _).mono ?_;rintro e w3 ⟨v,rfl,hown,hb⟩;go_wp2_with fail;go_ret;exact HF.out _ _ ⟨_,rfl,hown,hb⟩
 have t1:(X.toList==[65,100,100,114,101,115,115])=false:=by rw [HX.out];exact beq_eq_false_iff_ne.2 h1
 have p1:¬X.toList=[65,100,100,114,101,115,115]:=by rw [HX.out];exact h1
 by_cases h2:l=nm2
 ·have HF:=zh (show ∀ e w',ai 76 pg2 w e w'→ah l w e w' from fun e w' h=>by
   unfold ah;rw [h2,qtM];exact ⟨h,fun h0=>absurd h0 (by decide)⟩)
  have t2:(X.toList==[65,100,100,114,101,115,115,67,111,109,112,111,110,101,110,116])=true:=by rw [HX.out,h2];rfl
  have p2:X.toList=[65,100,100,114,101,115,115,67,111,109,112,111,110,101,110,116]:=by rw [HX.out,h2];rfl
  have HC:=zh (fun W=>qbn ⟨#[97,112,97,114,116,109,101,110,116,32,98,108,111,99,107,32,98,117,105,108,100,105,110,103,32,99,111,117,110,116,114,121,32,100,105,114,101,99,116,105,111,110,32,100,105,115,116,114,105,99,116,32,102,108,111,111,114,32,108,97,110,100,109,97,114,107,32,108,111,99,97,108,105,116,121,32,110,97,109,101,32,110,117,109,98,101,114,32,112,111,115,116,79,102,102,105,99,101,66,111,120,32,112,111,115,116,99,111,100,101,32,114,101,103,105,111,110,32,114,111,111,109,32,115,101,112,97,114,97,116,111,114,32,115,117,98,100,105,115,116,114,105,99,116]⟩ W);clear h0 h1 h2 HX;go_enter Tryz.func36,Tryz.ntmps36;go_wp2_with fail;refine (HC.out _).mono ?_;rintro e w3 ⟨v,rfl,hown,hb⟩;go_wp2_with fail;go_ret;exact HF.out _ _ ⟨_,rfl,hown,hb⟩
 have t2:(X.toList==[65,100,100,114,101,115,115,67,111,109,112,111,110,101,110,116])=false:=by rw [HX.out];exact beq_eq_false_iff_ne.2 h2
 have p2:¬X.toList=[65,100,100,114,101,115,115,67,111,109,112,111,110,101,110,116]:=by rw [HX.out];exact h2
 by_cases h3:l=nm3
 ·have HF:=zh (show ∀ e w',ai 76 pg3 w e w'→ah l w e w' from fun e w' h=>by
   unfold ah;rw [h3,qtQ];exact ⟨h,fun h0=>absurd h0 (by decide)⟩)
  have t3:(X.toList==[65,110,110,105,118,101,114,115,97,114,121])=true:=by rw [HX.out,h3];rfl
  have p3:X.toList=[65,110,110,105,118,101,114,115,97,114,121]:=by rw [HX.out,h3];rfl
  clear h0 h1 h2 h3 HX;go_enter Tryz.func36,Tryz.ntmps36;go_wp2_with fail;go_ret;exact HF.out _ _ (bT w pg3 _ _ _ (by kernel_rfl) rfl (by decide))
 have t3:(X.toList==[65,110,110,105,118,101,114,115,97,114,121])=false:=by rw [HX.out];exact beq_eq_false_iff_ne.2 h3
 have p3:¬X.toList=[65,110,110,105,118,101,114,115,97,114,121]:=by rw [HX.out];exact h3
 by_cases h4:l=nm4
 ·have HF:=zh (show ∀ e w',ai 76 pg4 w e w'→ah l w e w' from fun e w' h=>by
   unfold ah;rw [h4,qt1];exact ⟨h,fun h0=>absurd h0 (by decide)⟩)
  have t4:(X.toList==[69,109,97,105,108,65,100,100,114,101,115,115])=true:=by rw [HX.out,h4];rfl
  have p4:X.toList=[69,109,97,105,108,65,100,100,114,101,115,115]:=by rw [HX.out,h4];rfl
  have HC:=zh (fun W=>qai lt4 (aR lt4).toArray 1 W rfl rfl (by decide));clear h0 h1 h2 h3 h4 HX;go_enter Tryz.func36,Tryz.ntmps36;go_wp2_with fail;refine (HC.out _).mono ?_;rintro e w3 ⟨v,rfl,hown,hb⟩;go_wp2_with fail;go_ret;exact HF.out _ _ ⟨_,rfl,hown,hb⟩
 have t4:(X.toList==[69,109,97,105,108,65,100,100,114,101,115,115])=false:=by rw [HX.out];exact beq_eq_false_iff_ne.2 h4
 have p4:¬X.toList=[69,109,97,105,108,65,100,100,114,101,115,115]:=by rw [HX.out];exact h4
 by_cases h5:l=nm5
 ·have HF:=zh (show ∀ e w',ai 76 pg5 w e w'→ah l w e w' from fun e w' h=>by
   unfold ah;rw [h5,qtC];exact ⟨h,fun h0=>absurd h0 (by decide)⟩)
  have t5:(X.toList==[76,97,110,103,117,97,103,101,80,114,101,102])=true:=by rw [HX.out,h5];rfl
  have p5:X.toList=[76,97,110,103,117,97,103,101,80,114,101,102]:=by rw [HX.out,h5];rfl
  have HC:=zh (fun W=>qbq lt5 (aR lt5).toArray 1 W rfl rfl (by decide));clear h0 h1 h2 h3 h4 h5 HX;go_enter Tryz.func36,Tryz.ntmps36;go_wp2_with fail;refine (HC.out _).mono ?_;rintro e w3 ⟨v,rfl,hown,hb⟩;go_wp2_with fail;go_ret;exact HF.out _ _ ⟨_,rfl,hown,hb⟩
 have t5:(X.toList==[76,97,110,103,117,97,103,101,80,114,101,102])=false:=by rw [HX.out];exact beq_eq_false_iff_ne.2 h5
 have p5:¬X.toList=[76,97,110,103,117,97,103,101,80,114,101,102]:=by rw [HX.out];exact h5
 by_cases h6:l=nm6
 ·have HF:=zh (show ∀ e w',ai 76 pg6 w e w'→ah l w e w' from fun e w' h=>by
   unfold ah;rw [h6,qtY];exact ⟨h,fun h0=>absurd h0 (by decide)⟩)
  have t6:(X.toList==[76,105,110,107])=true:=by rw [HX.out,h6];rfl
  have p6:X.toList=[76,105,110,107]:=by rw [HX.out,h6];rfl
  have HC:=zh (fun W=>qb6 lt6 (aR lt6).toArray 1 W rfl rfl (by decide));clear h0 h1 h2 h3 h4 h5 h6 HX;go_enter Tryz.func36,Tryz.ntmps36;go_wp2_with fail;refine (HC.out _).mono ?_;rintro e w3 ⟨v,rfl,hown,hb⟩;go_wp2_with fail;go_ret;exact HF.out _ _ ⟨_,rfl,hown,hb⟩
 have t6:(X.toList==[76,105,110,107])=false:=by rw [HX.out];exact beq_eq_false_iff_ne.2 h6
 have p6:¬X.toList=[76,105,110,107]:=by rw [HX.out];exact h6
 by_cases h7:l=nm7
 ·have HF:=zh (show ∀ e w',ai 76 pg7 w e w'→ah l w e w' from fun e w' h=>by
   unfold ah;rw [h7,qt0];exact ⟨h,fun h0=>absurd h0 (by decide)⟩)
  have t7:(X.toList==[77,101,100,105,97])=true:=by rw [HX.out,h7];rfl
  have p7:X.toList=[77,101,100,105,97]:=by rw [HX.out,h7];rfl
  have HC:=zh (fun W=>qb6 lt7 (aR lt7).toArray 1 W rfl rfl (by decide));clear h0 h1 h2 h3 h4 h5 h6 h7 HX;go_enter Tryz.func36,Tryz.ntmps36;go_wp2_with fail;refine (HC.out _).mono ?_;rintro e w3 ⟨v,rfl,hown,hb⟩;go_wp2_with fail;go_ret;exact HF.out _ _ ⟨_,rfl,hown,hb⟩
 have t7:(X.toList==[77,101,100,105,97])=false:=by rw [HX.out];exact beq_eq_false_iff_ne.2 h7
 have p7:¬X.toList=[77,101,100,105,97]:=by rw [HX.out];exact h7
 by_cases h8:l=nm8
 ·have HF:=zh (show ∀ e w',ai 76 pg8 w e w'→ah l w e w' from fun e w' h=>by
   unfold ah;rw [h8,qtP];exact ⟨h,fun h0=>absurd h0 (by decide)⟩)
  have t8:(X.toList==[78,97,109,101])=true:=by rw [HX.out,h8];rfl
  have p8:X.toList=[78,97,109,101]:=by rw [HX.out,h8];rfl
  have HC:=zh (fun W=>qeU ⟨#[78,97,109,101,67,111,109,112,111,110,101,110,116]⟩ 0 0 none [] W ⟨none,0,rfl,fun h=>by simp at h⟩ (by decide));clear h0 h1 h2 h3 h4 h5 h6 h7 h8 HX;go_enter Tryz.func36,Tryz.ntmps36;go_wp2_with fail;refine (HC.out _).mono ?_;rintro e w3 ⟨v,rfl,hown,hb⟩;go_wp2_with fail;go_ret;exact HF.out _ _ ⟨_,rfl,hown,hb⟩
 have t8:(X.toList==[78,97,109,101])=false:=by rw [HX.out];exact beq_eq_false_iff_ne.2 h8
 have p8:¬X.toList=[78,97,109,101]:=by rw [HX.out];exact h8
 by_cases h9:l=nm9
 ·have HF:=zh (show ∀ e w',ai 76 pg9 w e w'→ah l w e w' from fun e w' h=>by
   unfold ah;rw [h9,qtD];exact ⟨h,fun h0=>absurd h0 (by decide)⟩)
  have t9:(X.toList==[78,97,109,101,67,111,109,112,111,110,101,110,116])=true:=by rw [HX.out,h9];rfl
  have p9:X.toList=[78,97,109,101,67,111,109,112,111,110,101,110,116]:=by rw [HX.out,h9];rfl
  have HC:=zh (fun W=>qbn ⟨#[99,114,101,100,101,110,116,105,97,108,32,103,101,110,101,114,97,116,105,111,110,32,103,105,118,101,110,32,103,105,118,101,110,50,32,115,101,112,97,114,97,116,111,114,32,115,117,114,110,97,109,101,32,115,117,114,110,97,109,101,50,32,116,105,116,108,101]⟩ W);clear h0 h1 h2 h3 h4 h5 h6 h7 h8 h9 HX;go_enter Tryz.func36,Tryz.ntmps36;go_wp2_with fail;refine (HC.out _).mono ?_;rintro e w3 ⟨v,rfl,hown,hb⟩;go_wp2_with fail;go_ret;exact HF.out _ _ ⟨_,rfl,hown,hb⟩
 have t9:(X.toList==[78,97,109,101,67,111,109,112,111,110,101,110,116])=false:=by rw [HX.out];exact beq_eq_false_iff_ne.2 h9
 have p9:¬X.toList=[78,97,109,101,67,111,109,112,111,110,101,110,116]:=by rw [HX.out];exact h9
 by_cases h10:l=qhC
 ·have HF:=zh (show ∀ e w',ai 76 qry w e w'→ah l w e w' from fun e w' h=>by
   unfold ah;rw [h10,qsR];exact ⟨h,fun h0=>absurd h0 (by decide)⟩)
  have t10:(X.toList==[78,105,99,107,110,97,109,101])=true:=by rw [HX.out,h10];rfl
  have p10:X.toList=[78,105,99,107,110,97,109,101]:=by rw [HX.out,h10];rfl
  have HC:=zh (fun W=>qbq qrR (aR qrR).toArray 1 W rfl rfl (by decide));clear h0 h1 h2 h3 h4 h5 h6 h7 h8 h9 h10 HX;go_enter Tryz.func36,Tryz.ntmps36;go_wp2_with fail;refine (HC.out _).mono ?_;rintro e w3 ⟨v,rfl,hown,hb⟩;go_wp2_with fail;go_ret;exact HF.out _ _ ⟨_,rfl,hown,hb⟩
 have t10:(X.toList==[78,105,99,107,110,97,109,101])=false:=by rw [HX.out];exact beq_eq_false_iff_ne.2 h10
 have p10:¬X.toList=[78,105,99,107,110,97,109,101]:=by rw [HX.out];exact h10
 by_cases h11:l=qh6
 ·have HF:=zh (show ∀ e w',ai 76 qpz w e w'→ah l w e w' from fun e w' h=>by
   unfold ah;rw [h11,qsz];exact ⟨h,fun h0=>absurd h0 (by decide)⟩)
  have t11:(X.toList==[78,111,116,101])=true:=by rw [HX.out,h11];rfl
  have p11:X.toList=[78,111,116,101]:=by rw [HX.out,h11];rfl
  clear h0 h1 h2 h3 h4 h5 h6 h7 h8 h9 h10 h11 HX;go_enter Tryz.func36,Tryz.ntmps36;go_wp2_with fail;go_ret;exact HF.out _ _ (bT w qpz _ _ _ (by kernel_rfl) rfl (by decide))
 have t11:(X.toList==[78,111,116,101])=false:=by rw [HX.out];exact beq_eq_false_iff_ne.2 h11
 have p11:¬X.toList=[78,111,116,101]:=by rw [HX.out];exact h11
 by_cases h12:l=qhV
 ·have HF:=zh (show ∀ e w',ai 76 qr0 w e w'→ah l w e w' from fun e w' h=>by
   unfold ah;rw [h12,qr5];exact ⟨h,fun h0=>absurd h0 (by decide)⟩)
  have t12:(X.toList==[79,110,108,105,110,101,83,101,114,118,105,99,101])=true:=by rw [HX.out,h12];rfl
  have p12:X.toList=[79,110,108,105,110,101,83,101,114,118,105,99,101]:=by rw [HX.out,h12];rfl
  have HC:=zh (fun W=>qai qsa (aR qsa).toArray 3 W rfl rfl (by decide));clear h0 h1 h2 h3 h4 h5 h6 h7 h8 h9 h10 h11 h12 HX;go_enter Tryz.func36,Tryz.ntmps36;go_wp2_with fail;refine (HC.out _).mono ?_;rintro e w3 ⟨v,rfl,hown,hb⟩;go_wp2_with fail;go_ret;exact HF.out _ _ ⟨_,rfl,hown,hb⟩
 have t12:(X.toList==[79,110,108,105,110,101,83,101,114,118,105,99,101])=false:=by rw [HX.out];exact beq_eq_false_iff_ne.2 h12
 have p12:¬X.toList=[79,110,108,105,110,101,83,101,114,118,105,99,101]:=by rw [HX.out];exact h12
 by_cases h13:l=qik
 ·have HF:=zh (show ∀ e w',ai 76 qp6 w e w'→ah l w e w' from fun e w' h=>by
   unfold ah;rw [h13,qst];exact ⟨h,fun h0=>absurd h0 (by decide)⟩)
  have t13:(X.toList==[79,114,103,85,110,105,116])=true:=by rw [HX.out,h13];rfl
  have p13:X.toList=[79,114,103,85,110,105,116]:=by rw [HX.out,h13];rfl
  clear h0 h1 h2 h3 h4 h5 h6 h7 h8 h9 h10 h11 h12 h13 HX;go_enter Tryz.func36,Tryz.ntmps36;go_wp2_with fail;go_ret;exact HF.out _ _ (bT w qp6 _ _ _ (by kernel_rfl) rfl (by decide))
 have t13:(X.toList==[79,114,103,85,110,105,116])=false:=by rw [HX.out];exact beq_eq_false_iff_ne.2 h13
 have p13:¬X.toList=[79,114,103,85,110,105,116]:=by rw [HX.out];exact h13
 by_cases h14:l=qh2
 ·have HF:=zh (show ∀ e w',ai 76 qs9 w e w'→ah l w e w' from fun e w' h=>by
   unfold ah;rw [h14,qsl];exact ⟨h,fun h0=>absurd h0 (by decide)⟩)
  have t14:(X.toList==[79,114,103,97,110,105,122,97,116,105,111,110])=true:=by rw [HX.out,h14];rfl
  have p14:X.toList=[79,114,103,97,110,105,122,97,116,105,111,110]:=by rw [HX.out,h14];rfl
  clear h0 h1 h2 h3 h4 h5 h6 h7 h8 h9 h10 h11 h12 h13 h14 HX;go_enter Tryz.func36,Tryz.ntmps36;go_wp2_with fail;refine (qpE _).mono ?_;rintro e w3 ⟨v,rfl,hown,hb⟩;go_wp2_with fail;go_ret;exact HF.out _ _ ⟨_,rfl,hown,hb⟩
 have t14:(X.toList==[79,114,103,97,110,105,122,97,116,105,111,110])=false:=by rw [HX.out];exact beq_eq_false_iff_ne.2 h14
 have p14:¬X.toList=[79,114,103,97,110,105,122,97,116,105,111,110]:=by rw [HX.out];exact h14
 by_cases h15:l=qdT
 ·have HF:=zh (show ∀ e w',ai 76 qqh w e w'→ah l w e w' from fun e w' h=>by
   unfold ah;rw [h15,qsG];exact ⟨h,fun h0=>absurd h0 (by decide)⟩)
  have t15:(X.toList==[80,97,114,116,105,97,108,68,97,116,101])=true:=by rw [HX.out,h15];rfl
  have p15:X.toList=[80,97,114,116,105,97,108,68,97,116,101]:=by rw [HX.out,h15];rfl
  clear h0 h1 h2 h3 h4 h5 h6 h7 h8 h9 h10 h11 h12 h13 h14 h15 HX;go_enter Tryz.func36,Tryz.ntmps36;go_wp2_with fail;go_ret;exact HF.out _ _ (bT w qqh _ _ _ (by kernel_rfl) rfl (by decide))
 have t15:(X.toList==[80,97,114,116,105,97,108,68,97,116,101])=false:=by rw [HX.out];exact beq_eq_false_iff_ne.2 h15
 have p15:¬X.toList=[80,97,114,116,105,97,108,68,97,116,101]:=by rw [HX.out];exact h15
 by_cases h16:l=qir
 ·have HF:=zh (show ∀ e w',ai 76 qrL w e w'→ah l w e w' from fun e w' h=>by
   unfold ah;rw [h16,qrO];exact ⟨h,fun h0=>absurd h0 (by decide)⟩)
  have t16:(X.toList==[80,104,111,110,101])=true:=by rw [HX.out,h16];rfl
  have p16:X.toList=[80,104,111,110,101]:=by rw [HX.out,h16];rfl
  have HC:=zh (fun W=>qai qrG (aR qrG).toArray 2 W rfl rfl (by decide));clear h0 h1 h2 h3 h4 h5 h6 h7 h8 h9 h10 h11 h12 h13 h14 h15 h16 HX;go_enter Tryz.func36,Tryz.ntmps36;go_wp2_with fail;refine (HC.out _).mono ?_;rintro e w3 ⟨v,rfl,hown,hb⟩;go_wp2_with fail;go_ret;exact HF.out _ _ ⟨_,rfl,hown,hb⟩
 have t16:(X.toList==[80,104,111,110,101])=false:=by rw [HX.out];exact beq_eq_false_iff_ne.2 h16
 have p16:¬X.toList=[80,104,111,110,101]:=by rw [HX.out];exact h16
 by_cases h17:l=qhn
 ·have HF:=zh (show ∀ e w',ai 76 qp1 w e w'→ah l w e w' from fun e w' h=>by
   unfold ah;rw [h17,qtf];exact ⟨h,fun h0=>absurd h0 (by decide)⟩)
  have t17:(X.toList==[82,101,108,97,116,105,111,110])=true:=by rw [HX.out,h17];rfl
  have p17:X.toList=[82,101,108,97,116,105,111,110]:=by rw [HX.out,h17];rfl
  clear h0 h1 h2 h3 h4 h5 h6 h7 h8 h9 h10 h11 h12 h13 h14 h15 h16 h17 HX;go_enter Tryz.func36,Tryz.ntmps36;go_wp2_with fail;go_ret;exact HF.out _ _ (bT w qp1 _ _ _ (by kernel_rfl) rfl (by decide))
 have t17:(X.toList==[82,101,108,97,116,105,111,110])=false:=by rw [HX.out];exact beq_eq_false_iff_ne.2 h17
 have p17:¬X.toList=[82,101,108,97,116,105,111,110]:=by rw [HX.out];exact h17
 by_cases h18:l=dF
 ·have HF:=zh (show ∀ e w',ai 76 qqH w e w'→ah l w e w' from fun e w' h=>by
   unfold ah;rw [h18,qsS];exact ⟨h,fun h0=>absurd h0 (by decide)⟩)
  have t18:(X.toList==[84,105,109,101,115,116,97,109,112])=true:=by rw [HX.out,h18];rfl
  have p18:X.toList=[84,105,109,101,115,116,97,109,112]:=by rw [HX.out,h18];rfl
  clear h0 h1 h2 h3 h4 h5 h6 h7 h8 h9 h10 h11 h12 h13 h14 h15 h16 h17 h18 HX;go_enter Tryz.func36,Tryz.ntmps36;go_wp2_with fail;go_ret;exact HF.out _ _ (bT w qqH _ _ _ (by kernel_rfl) rfl (by decide))
 have t18:(X.toList==[84,105,109,101,115,116,97,109,112])=false:=by rw [HX.out];exact beq_eq_false_iff_ne.2 h18
 have p18:¬X.toList=[84,105,109,101,115,116,97,109,112]:=by rw [HX.out];exact h18
 by_cases h19:l=qit
 ·have HF:=zh (show ∀ e w',ai 76 qsu w e w'→ah l w e w' from fun e w' h=>by
   unfold ah;rw [h19,qrx];exact ⟨h,fun h0=>absurd h0 (by decide)⟩)
  have t19:(X.toList==[84,105,116,108,101])=true:=by rw [HX.out,h19];rfl
  have p19:X.toList=[84,105,116,108,101]:=by rw [HX.out,h19];rfl
  clear h0 h1 h2 h3 h4 h5 h6 h7 h8 h9 h10 h11 h12 h13 h14 h15 h16 h17 h18 h19 HX;go_enter Tryz.func36,Tryz.ntmps36;go_wp2_with fail;refine (qmk _).mono ?_;rintro e w3 ⟨v,rfl,hown,hb⟩;go_wp2_with fail;go_ret;exact HF.out _ _ ⟨_,rfl,hown,hb⟩
 have t19:(X.toList==[84,105,116,108,101])=false:=by rw [HX.out];exact beq_eq_false_iff_ne.2 h19
 have p19:¬X.toList=[84,105,116,108,101]:=by rw [HX.out];exact h19
 have HT:=zh (show bq l=[] from qkr h0 h1 h2 h3 h4 h5 h6 h7 h8 h9 h10 h11 h12 h13 h14 h15 h16 h17 h18 h19);clear h0 h1 h2 h3 h4 h5 h6 h7 h8 h9 h10 h11 h12 h13 h14 h15 h16 h17 h18 h19 HX;go_enter Tryz.func36,Tryz.ntmps36;go_wp2_with fail;go_ret;unfold ah;rw [HT.out];exact ⟨⟨_,rfl,World.ownsRow_nil _ _ _ _,Below.refl _ _⟩,fun _=>⟨rfl,rfl⟩⟩
