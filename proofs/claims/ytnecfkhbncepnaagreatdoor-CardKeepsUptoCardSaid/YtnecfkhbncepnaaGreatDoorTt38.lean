/- Merged: SmF. -/
import Derived.Test.YtnecfkhbncepnaaGreatDoorTt37
import Derived.Shelf.SlSortCmp.NoneTotal
set_option maxRecDepth 100000
set_option maxHeartbeats 2000000
namespace Go.Proofs.YtnecfkhbncepnaaGreatDoor
namespace Sm
open Go.Proofs Go.RowKit Go.Sort Go.Shelf Go.Lib Utf Nu Wo
theorem qcF (l:List UInt8):(bq l).Perm (af l)∧qmB (af l)∧(bq l).length≤30∧(bq l=[]∨0<(bq l).length):=by
 rcases qdf l with h | ⟨h0,h1,h2,h3,h4,h5,h6,h7,h8,h9,h10,h11,h12,h13,h14,h15,h16,h17,h18,h19⟩
 ·have a:=List.all_eq_true.1 ql3 l h;have b:=List.all_eq_true.1 qly l h;have c:=List.all_eq_true.1 qoS l h;rw [Bool.and_eq_true] at c;exact ⟨List.isPerm_iff.1 a,of_decide_eq_true b,of_decide_eq_true c.1,.inr (of_decide_eq_true c.2)⟩
 ·have e1:=qkr h0 h1 h2 h3 h4 h5 h6 h7 h8 h9 h10 h11 h12 h13 h14 h15 h16 h17 h18 h19;have e2:af l=[]:=by
   unfold af;rw [if_pos (qoK h0 h1 h2 h3 h4 h5 h6 h7 h8 h9 h10 h11 h12 h13 h14 h15 h16 h17 h18 h19)]
  rw [e1,e2];exact ⟨List.Perm.refl _,List.Pairwise.nil,by decide,.inl rfl⟩
theorem ql6 (p:Option Addr) (cap:Nat) (fv:Value) (w:World):Calls Tryz.prog 37 #[.slice p 0 cap,fv] w fun e w'=>e = .returned (.tuple #[])∧w'=w:=
 AnyF.slices_SortFunc_none qkv p cap fv w
theorem qbA (X:ByteArray) (w:World):Calls Tryz.prog 17 #[.string X] w (ai 76 (af X.data.toList) w):=by
 have HT:=zh (fun W=>qjf X W);obtain ⟨hp,hr,hfew,h0⟩:=qcF X.data.toList;unfold ah at HT;generalize bq X.data.toList=L at *;generalize af X.data.toList=S at *;have HP:=zh hp;have HR:=zh hr;have HF:=zh hfew;clear hp hr hfew;rcases h0 with h0 | h0
 ·have HL:=zh h0;clear h0;go_enter Tryz.func17,Tryz.ntmps17;go_wp2_with fail;refine (HT.out _).mono ?_;rintro e w1 ⟨-,hz⟩;obtain ⟨rfl,rfl⟩:=hz HL.out;go_wp2_with fail;refine (ql6 _ _ _ _).mono ?_;rintro e w2 ⟨rfl,rfl⟩;go_wp2_with fail;go_ret;have e1:S=[]:=by
   have:=HP.out;rw [HL.out] at this;exact List.Perm.eq_nil this.symm
  rw [e1];exact ⟨_,rfl,World.ownsRow_nil _ _ _ _,Below.refl _ _⟩
 ·have H0:=zh h0;clear h0;go_enter Tryz.func17,Tryz.ntmps17;go_wp2_with fail;refine (HT.out _).mono ?_;rintro e w1 ⟨⟨v,rfl,hown,hb⟩, -⟩;obtain ⟨g,cap,rfl,hg,hlt⟩:=hown.form H0.out;have HS:=zh (qgt g 0 cap L.toArray w1 (qa8 hown) hlt (by have:=HF.out;simp;omega));have HO:=zh hown;have HB:=zh hb;have HG:=zh hg;rw [show L.toArray.size=L.length by simp] at HS;clear hown hb hg hlt;go_wp2_with fail;refine HS.out.mono ?_;rintro e w2 ⟨rfl,d',n,os,hp,hs,rfl⟩;obtain rfl:=qnu hp hs HP.out HR.out;have hfin:=qjM (n:=n) (os:=os) (S:=S) HB.out.size HO.out HP.out.symm.length_eq HG.out w HB.out;have HFI:=zh hfin;generalize sortWorldK prC 5 w1 g 0 n S.toArray os=w3 at *;have HLL:=zh HP.out.length_eq;clear hfin hp hs;go_wp2_with fail;go_ret;refine ⟨_,rfl,?_,HFI.out.2⟩;rw [←HLL.out];exact HFI.out.1
section
variable {fn:Func} {s b z:Nat} {tmps:Array Value} {w:World} {fr:Nat×Nat} {v0 v1 v2 v3 v4:Value}
theorem qru {x:Value} (hf:fn.results = #[.cell s 76,.tmp z]) (ht:tmps.getD s undef = .pointer (some ⟨b,0,none⟩)) (hx:tmps.getD z undef=x)
  (h:w.heap[b]? = some (.cells #[v0,v1,v2,v3,v4] 76 fr)):(results fn tmps).run Tryz.prog w = .ok (.tuple #[.agg #[v0,v1,v2,v3,v4],x]) w:=by
 have c0:w.cell? ⟨b,0,none⟩=some v0:=by simp [World.cell?,h]
 have c1:w.cell? ⟨b,1,none⟩=some v1:=by simp [World.cell?,h]
 have c2:w.cell? ⟨b,2,none⟩=some v2:=by simp [World.cell?,h]
 have c3:w.cell? ⟨b,3,none⟩=some v3:=by simp [World.cell?,h]
 have c4:w.cell? ⟨b,4,none⟩=some v4:=by simp [World.cell?,h]
 rw [Array.getD_eq_getD_getElem?] at ht hx;simp [results,hf,ht,hx,c0,c1,c2,c3,c4,go_sem]
end
