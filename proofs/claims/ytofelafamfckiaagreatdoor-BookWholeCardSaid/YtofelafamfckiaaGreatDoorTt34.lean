/- Merged: TrU TrW PaRaw CdRw. -/
import Derived.Test.YtofelafamfckiaaGreatDoorTt32
import Derived.Laws.CopyOwn
import Derived.Laws.CopyRow
import Derived.Laws.MakeOwn
import Derived.Test.YtofelafamfckiaaGreatDoorTt9
namespace Go.Proofs.YtofelafamfckiaaGreatDoor
namespace Tr
open Go.Proofs Go.RowKit Go.Lib Utf Sc Re
def qbz (v:V) (nm:List UInt8):List (List UInt8):=if nm∈inN v then inN v else inN v++[nm]
def qbr (v:V) (nm:List UInt8) (x:V):List V:=if nm∈inN v then (inM v).set ((inN v).idxOf nm) x else inM v++[x]
def woN (v:V) (nm:List UInt8):List (List UInt8):=(((inN v).zip (inM v)).filter fun p=>p.1≠nm).map Prod.fst
def woM (v:V) (nm:List UInt8):List V:=(((inN v).zip (inM v)).filter fun p=>p.1≠nm).map Prod.snd
def qdl (pd:List (M6×V)) (nm:List UInt8) (k:Nat):List (M6×V):=(pd.take k).filter fun p=>p.1.nm≠nm
end Tr
namespace Pa
open Go.Proofs Go.RowKit Go.Lib Utf Sc Re Tr
def qnc (w:World) (hi:Nat) (A:Option Addr) (d:List M6):Prop:=
 0<d.length→∃ g o,A=some ⟨g,o,none⟩∧g<hi∧∀ i (h:i<d.length),qbJ w g (o+i*6) d[i]
end Pa
namespace Cd
open Go.Proofs Go.RowKit Go.Lib Utf Sc Re Tr Po Pa
def tN (T:List (M6×V)):List (List UInt8):=T.map fun t=>t.1.nm
def tM (T:List (M6×V)):List V:=T.map Prod.snd
def mpT (T:List (M6×V)):V:=mpV (tN T,tM T)
theorem qgK (T:List (M6×V)):mem (mpT T)=T.map fun t=>(t.1.nm,t.2):=by
 show (tN T).zip (tM T)=_;unfold tN tM;induction T with
 | nil=>rfl
 | cons a r ih=>simp only [List.map_cons,List.zip_cons_cons,ih]
theorem dh {w:World} {v:V} {cs:List Value} (hv:RdA w 0 w.heap.size v cs):∃ (A:Option Addr) (c:Nat) (A2:Option Addr) (c2:Nat) (T:List (M6×V)),cs=[.int .i64 v.k,.int .i64 v.n,.string (ae v.s),.slice A v.l.length c,.slice A2 T.length c2]∧
  T.length=v.ms.length∧tM T=v.ms∧tN T=v.ns∧qnc w w.heap.size A2 (T.map Prod.fst)∧(∀ t∈T,RdA w 0 w.heap.size t.2 (qbR t.1))∧v.ns.length=v.ms.length:=by
 obtain ⟨A,c,A2,c2,e,hn, -,hm⟩:=hv.cells;obtain ⟨d,hd1,hd2,hd3,hd4⟩:=qgC hn hm;refine ⟨A,c,A2,c2,d.zip v.ms,?_,?_,?_,?_,?_,?_,hn⟩
 ·rw [e,List.length_zip,hd1,Nat.min_self]
 ·rw [List.length_zip,hd1,Nat.min_self]
 ·unfold tM;exact List.map_snd_zip (by omega)
 ·unfold tN;rw [←hd2,show (fun t:M6×V=>t.1.nm)=M6.nm ∘ Prod.fst from rfl,←List.map_map,List.map_fst_zip (by omega)]
 ·rw [List.map_fst_zip (by omega)];intro h0;obtain ⟨g,o,e,_,g2,hr⟩:=hd3 h0;exact ⟨g,o,e,g2,hr⟩
 ·intro t ht;obtain ⟨i,hi,rfl⟩:=List.getElem_of_mem ht;rw [List.length_zip] at hi;rw [List.getElem_zip];exact hd4 i (by omega) (by omega)
theorem qgm {B:Nat} {v:V} {T:List (M6×V)} (hz:szA B v) (h1:tM T=v.ms) (h2:tN T=v.ns):∀ t∈T,szA B t.2∧t.1.nm.length≤B:=fun t ht=>by
 have:=(bL B v).1 hz;refine ⟨aU this.2.2.2.2.2.2.2 ?_,this.2.2.2.2.2.1 _ ?_⟩
 ·rw [←h1];exact List.mem_map.2 ⟨t,ht,rfl⟩
 ·rw [←h2];exact List.mem_map.2 ⟨t,ht,rfl⟩
theorem qcI {v:V} {T:List (M6×V)} (h1:tM T=v.ms) (h2:tN T=v.ns):mem v=T.map fun t=>(t.1.nm,t.2):=by
 rw [←qgK];show v.ns.zip v.ms=(tN T).zip (tM T);rw [h1,h2]
