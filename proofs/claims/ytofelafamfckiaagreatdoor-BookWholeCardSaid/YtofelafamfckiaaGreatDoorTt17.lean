/- Merged: EmA EmB. -/
import Derived.Test.YtofelafamfckiaaGreatDoorTt10
import Derived.IntWalk
import Derived.Deep.RegionHeld3
import Derived.Maps.OwnSet
set_option maxRecDepth 100000
set_option maxHeartbeats 4000000
namespace Go.Proofs.YtofelafamfckiaaGreatDoor
namespace Em
open Go.RowKit Go.Maps Utf Sc Re
def qeI (q:Prop) (w:World) (e:Ending) (w':World):Prop:=(∃ b,e = .returned (.bool b)∧(b=true↔q))∧Below w.heap.size w w'
def oth (k n:Int) (S:ByteArray) (ll lm:Nat):Prop:=(n≠0∧k≠2∧k≠3)∨(S.toList≠[]∧k≠4)∨(ll≠0∧k≠5)∨(lm≠0∧k≠6)
theorem qdm (k n:Int) (S:ByteArray) (A A2:Option Addr) (ll c lm c2:Nat) (w:World) :
  Calls Tryz.prog 64 #[.agg #[.int .i64 k,.int .i64 n,.string S,.slice A ll c,.slice A2 lm c2]] w (qeI (oth k n S ll lm) w):=by
 go_enter Tryz.func64,Tryz.ntmps64;go_wp2_with fail
 all_goals
  go_ret;refine ⟨⟨_,rfl,?_⟩,(Below.refl _ _).alloc (Nat.le_refl _) _⟩;unfold oth
  simp_all
  try omega
theorem qbv (s:ByteArray) (w:World) (hs:s.size≤maxLen):Calls Tryz.prog 65 #[.string s] w fun e w'=>(∃ b,e = .returned (.bool b)∧(b=true↔okS s.data.toList))∧w=w':=by
 have hb:=qgI s w hs;have hi:((bU s.data.toList).2:Int)=(s.size:Int)↔okS s.data.toList:=by unfold okS;rw [af];omega
 generalize ((bU s.data.toList).2:Int)=x at *;have HB:=zh hb;clear hb;go_enter Tryz.func65,Tryz.ntmps65;go_wp2_with (go_at_call 91;refine HB.out.mono ?_;rintro e w' ⟨rfl,rfl⟩)
 all_goals
  go_ret;exact ⟨⟨_,rfl,by rw [←hi];simp⟩,rfl⟩
def nK (n:List UInt8):Lit:= .string n
def nD (ns:List (List UInt8)):DataW Unit:=setOf (.agg []) (ns.map nK)
theorem qjZ (ns:List (List UInt8)) (n:List UInt8):nD (ns++[n])=(nD ns).put (nK n) (.agg []):=by
 unfold nD;rw [List.map_append];exact setOf_snoc _ _ _
theorem qh0 (ns:List (List UInt8)) (n:List UInt8):Maps.has (nD ns) (nK n)=decide (n∈ns):=by
 unfold nD;rw [has_setOf _ _ _ (fun x hx=>by
  obtain ⟨y,_,rfl⟩:=List.mem_map.1 hx;trivial)]
 rw [List.any_map,Bool.eq_iff_iff,List.any_eq_true,decide_eq_true_iff];constructor
 ·rintro ⟨x,h1,h2⟩;have:x=n:=by simpa [nK,Lit.sameKey] using h2
  rw [←this];exact h1
 ·intro h;exact ⟨n,h,by simp [nK,Lit.sameKey]⟩
theorem qkg:Keyed Tryz.prog 9:=string_keyed Tryz.underlying9
theorem qil (w:World):(zeroValue 125).run Tryz.prog w = .ok (.agg #[]) w:=by kernel_rfl
def Nms (w:World) (mb n:Nat) (ns:List (List UInt8)):Prop:=w.ownsMap Tryz.prog 9 (unitElem (H:=Unit)) mb n (nD ns)
theorem qen (A:Option Addr) (c:Nat) (ns:List (List UInt8)) (ms:List V) (lo:Nat) (w:World) (hn:ns.length=ms.length) (hR:0<ms.length→∃ g o,A=some ⟨g,o,none⟩∧lo≤g∧g<w.heap.size∧aL w lo w.heap.size g o ns ms)
  (hs:∀ x∈ns,x.length≤maxLen) (hz:ms.length≤4611686018427387904) :
  Calls Tryz.prog 66 #[.slice A ms.length c] w (qeI (qal ns) w):=by
 have hmm:∀ (n:Int) (w:World),(Instr.makeMap 124 (some (.int .i64 n))).run Tryz.prog w = .ok (.map (some w.heap.size)) (w.alloc (.map #[] 0)):=fun _ _=>by kernel_rfl
 by_cases h8:ms.length≤8192
 ·have hq:qal ns↔(∀ x∈ns,okS x)∧ns.Nodup:=by unfold qal;rw [hn];exact ⟨fun h=>h h8,fun h _=>h⟩
  generalize qal ns=Q at *;obtain ⟨n,hnn⟩:∃ n,ms.length=n:=⟨_,rfl⟩
  rw [hnn] at h8 hz ⊢;have hd:decide ((8192:Int)<(n:Int))=false:=zF (by omega);have hd2:decide (8192<n)=false:=zF (by omega);have HQ:=zh hq;clear hq;have HN:=zh hn;clear hn;have HM:=zh hnn;have HS:=zh hs;clear hs;have HR:=zh (fun h=>hR (by rw [hnn];exact h));clear hR hnn;go_enter Tryz.func66,Tryz.ntmps66;go_wp2_with fail;go_loopw [16] (fun i wr=>∃ k:Nat,i = .int .i64 k∧k≤n∧((∀ x∈ns.take k,okS x)∧(ns.take k).Nodup)∧Nms wr w.heap.size k (ns.take k)∧Below w.heap.size w wr) (fun i _=>n-(intOf i).toNat)
  case atStart=>exact ⟨0,rfl,by omega,by simp,World.ownsMap_made _ _ _ _,(Below.refl _ _).alloc (Nat.le_refl _) _⟩
  case round=>
   obtain ⟨k,rfl,hk,hall,hown,hbel⟩:=hrel;by_cases hlt0:k<n
   ·have hlt:k<ms.length:=by rw [HM.out];exact hlt0
    have hlt2:k<ns.length:=by rw [HN.out];exact hlt
    have hlb:decide ((k:Int)<(n:Int))=true:=zT (by omega);have hlb2:decide (k<n)=true:=zT hlt0;have k0:(0:Int)≤(k:Int):=by omega
    have k1:(k:Int)<(n:Int):=by omega
    obtain ⟨g,o,e1,_,hg,hRR⟩:=HR.out (by omega);subst e1;obtain ⟨a0,xa,hxa,hva⟩:=aL.at_ _ _ o hRR k hlt hlt2;obtain ⟨p1,p2,p3,p4,ea,_⟩:=hva.cells;rename_i hjunk;clear hjunk;rw [ea] at hxa;have b0:=(hbel.cell (p:=⟨g,o+k*6,none⟩) hg).trans a0;have b1:=(hbel.cell (p:=⟨g,o+k*6+1,none⟩) hg).trans (hxa 0 _ rfl);have b2:=(hbel.cell (p:=⟨g,o+k*6+2,none⟩) hg).trans (hxa 1 _ rfl);have b3:=(hbel.cell (p:=⟨g,o+k*6+3,none⟩) hg).trans (hxa 2 _ rfl);have b4:=(hbel.cell (p:=⟨g,o+k*6+4,none⟩) hg).trans (hxa 3 _ rfl);have b5:=(hbel.cell (p:=⟨g,o+k*6+5,none⟩) hg).trans (hxa 4 _ rfl);have hsl:=HS.out ns[k] (List.getElem_mem hlt2);have hkey:=Go.WideMaps.keyOf_string_mk (P:=Tryz.prog) (k:=9) Tryz.underlying9 (s:=ae ns[k]) (by rw [aF];exact hsl);have hby:=fun w=>qbv (ae ns[k]) w (by rw [aF];exact hsl);rw [qag] at hkey hby;have htk:ns.take (k+1)=ns.take k++[ns[k]]:=cH ns k hlt2;have hmem:ns[k]∈ns:=List.getElem_mem hlt2;have hnod:ns[k]∈ns.take k→¬ns.Nodup:=fun hin hno=>by
     have:=(List.take_sublist (k+1) ns).nodup hno;rw [htk,List.nodup_append] at this;exact this.2.2 _ hin _ (by simp) rfl
    generalize ns[k]=x at *;generalize ms[k].k=y1 at *;generalize ms[k].n=y2 at *;generalize ae ms[k].s=y3 at *;generalize ms[k].l.length=y4 at *;generalize ms[k].ms.length=y5 at *;have HH:=zh hall;clear hall;have HO:=zh hown;clear hown;have HK:=zh hkey;clear hkey;have HB:=zh hby;clear hby;have HT:=zh htk;clear htk;have HD:=zh hnod;clear hnod;have HX:=zh hmem;clear hmem;have hbn:∀ w':World,Below wr.heap.size wr w'→Below w.heap.size w w':=fun w' h=>hbel.trans (h.mono hbel.size);have HBN:=zh hbn;clear hbn;clear hxa hva hRR ea hsl a0 HR;generalize ae x=X at *;by_cases hin:x∈ns.take k
    ·have hh:Maps.has (nD (ns.take k)) (nK x)=true:=by rw [qh0];exact zT hin
     have HI:=zh hin;clear hin;go_wp2_with (at_lookup;refine wpList_lookup_own_unit _ rfl _ _ 124 rfl 9 125 qkg Tryz.underlying124 (qil _) w.heap.size k (nD (ns.take k)) rfl (World.ownsMap.alloc HO.out _) _ _ rfl HK.out ?_;rw [show (Lit.string x)=nK x from rfl,hh])
     go_ret;exact ⟨⟨_,rfl,by rw [HQ.out];simp;exact fun _=>HD.out HI.out⟩,HBN.out _ (((Below.refl _ _).alloc (Nat.le_refl _) _).alloc (by simp) _)⟩
    ·have hh:Maps.has (nD (ns.take k)) (nK x)=false:=by rw [qh0];exact zF hin
     have HI:=zh hin;clear hin;by_cases hs0:okS x
     ·have HB2:=zh (fun w=>(HB.out w).mono fun e w' h=>by
       obtain ⟨⟨b,e1,e2⟩,e3⟩:=h;have:b=true:=e2.2 hs0;subst this;exact (⟨e1,e3⟩:e = .returned (.bool true)∧w=w'))
      have HS0:=zh hs0;clear hs0 HB;go_wp2_with (first
       | (at_lookup;refine wpList_lookup_own_unit _ rfl _ _ 124 rfl 9 125 qkg Tryz.underlying124 (qil _) w.heap.size k (nD (ns.take k)) rfl (World.ownsMap.alloc HO.out _) _ _ rfl HK.out ?_;rw [show (Lit.string x)=nK x from rfl,hh])
       | (at_mapUpdate;refine wpList_mapUpdate_own _ rfl _ _ _ 124 rfl 9 125 qkg Tryz.underlying124 (unitElem (H:=Unit)) w.heap.size k (nD (ns.take k)) rfl (World.ownsMap.alloc (World.ownsMap.alloc HO.out _) _) (by unfold maxLen;omega) _ _ _ rfl rfl HK.out _ [] unitElem_mk ?_;intro w1 hown1 hgrow1)
       | (go_at_call 65;refine (HB2.out _).mono ?_;rintro e w' ⟨rfl,rfl⟩))
      go_roundw
      case rel=>
       refine ⟨k+1,by go_num,by omega,⟨?_,?_⟩,?_,?_⟩
       ·rw [HT.out];intro z hz;rcases List.mem_append.1 hz with hz | hz
        ·exact HH.out.1 z hz
        ·rw [List.mem_singleton] at hz;rw [hz];exact HS0.out
       ·rw [HT.out,List.nodup_append];exact ⟨HH.out.2,by simp,fun z hz y hy=>by rw [List.mem_singleton] at hy;subst hy;rintro rfl;exact HI.out hz⟩
       ·unfold Nms;rw [HT.out,qjZ];exact hown1
       ·exact (HBN.out _ (((Below.refl _ _).alloc (Nat.le_refl _) _).alloc (by simp) _)).grown hgrow1 (by have:=hbel.size;simp;omega) (fun j hj=>by cases hj;exact Nat.le_refl _)
      case measure=>simp [intOf];omega
     ·have HB2:=zh (fun w=>(HB.out w).mono fun e w' h=>by
       obtain ⟨⟨b,e1,e2⟩,e3⟩:=h;have:b=false:=by
        rcases b with _ | _
        ·rfl
        ·exact absurd (e2.1 rfl) hs0
       subst this;exact (⟨e1,e3⟩:e = .returned (.bool false)∧w=w'))
      have HS0:=zh hs0;clear hs0 HB;go_wp2_with (first
       | (at_lookup;refine wpList_lookup_own_unit _ rfl _ _ 124 rfl 9 125 qkg Tryz.underlying124 (qil _) w.heap.size k (nD (ns.take k)) rfl (World.ownsMap.alloc HO.out _) _ _ rfl HK.out ?_;rw [show (Lit.string x)=nK x from rfl,hh])
       | (go_at_call 65;refine (HB2.out _).mono ?_;rintro e w' ⟨rfl,rfl⟩))
      go_ret;exact ⟨⟨_,rfl,by rw [HQ.out];simp;exact fun h=>absurd (h x HX.out) HS0.out⟩,HBN.out _ (((Below.refl _ _).alloc (Nat.le_refl _) _).alloc (by simp) _)⟩
   ·have hlb:decide ((k:Int)<(n:Int))=false:=zF (by omega);have hlb2:decide (k<n)=false:=zF hlt0;have hfin:ns.take k=ns:=List.take_of_length_le (by rw [HN.out,HM.out];omega);rw [hfin] at hall;go_wp2_with fail;go_ret;exact ⟨⟨_,rfl,by rw [HQ.out];simp;exact hall⟩,hbel⟩
 ·have hq:qal ns:=fun h=>absurd h (by omega);have hd:decide ((8192:Int)<(ms.length:Int))=true:=zT (by omega);have hd2:decide (8192<ms.length)=true:=zT (by omega);go_enter Tryz.func66,Tryz.ntmps66;go_wp2_with fail;go_ret;exact ⟨⟨_,rfl,by simp;exact hq⟩,Below.refl _ _⟩
theorem qkG {k n:Int} {S:ByteArray} {s:List UInt8} {a b:Nat} {ns:List (List UInt8)} (hS:S.toList=s):own k n s a ns b↔¬oth k n S a b∧(k=1∨k=5∨(k=2∧(n=0∨n=1))∨(k=3∧ -9007199254740991≤n∧n≤9007199254740991)∨(k=4∧okS s)∨(k=6∧qal ns)):=by
 unfold own oth;rw [hS];generalize okS s=P1;generalize qal ns=P2;constructor
 ·rintro ⟨⟨h1,h2,h3,h4,h5⟩,h6,h7,h8,h9⟩;refine ⟨?_,?_⟩
  ·rintro (⟨a1,a2⟩ | ⟨a1,a2⟩ | ⟨a1,a2⟩ | ⟨a1,a2⟩)
   ·exact a1 (h2 a2)
   ·exact a1 (h3 a2)
   ·exact a1 (h4 a2)
   ·exact a1 (h5 a2)
  ·rcases (show k=1∨k=2∨k=3∨k=4∨k=5∨k=6 by omega) with e | e | e | e | e | e
   ·exact .inl e
   ·exact .inr (.inr (.inl ⟨e,h6 e⟩))
   ·exact .inr (.inr (.inr (.inl ⟨e,h7 e⟩)))
   ·exact .inr (.inr (.inr (.inr (.inl ⟨e,h8 e⟩))))
   ·exact .inr (.inl e)
   ·exact .inr (.inr (.inr (.inr (.inr ⟨e,h9 e⟩))))
 ·rintro ⟨hn,h⟩;refine ⟨⟨by omega,fun e=>?_,fun e=>?_,fun e=>?_,fun e=>?_⟩,?_⟩
  ·exact Classical.byContradiction fun x=>hn (.inl ⟨x,e⟩)
  ·exact Classical.byContradiction fun x=>hn (.inr (.inl ⟨x,e⟩))
  ·exact Classical.byContradiction fun x=>hn (.inr (.inr (.inl ⟨x,e⟩)))
  ·exact Classical.byContradiction fun x=>hn (.inr (.inr (.inr ⟨x,e⟩)))
  ·rcases h with e | e | ⟨e,h⟩ | ⟨e,h⟩ | ⟨e,h⟩ | ⟨e,h⟩ <;> subst e <;> simp <;> exact h
theorem qb9 (v:V) (cs:List Value) (lo:Nat) (w:World) (hR:RdA w lo w.heap.size v cs) (h1:v.s.length≤maxLen) (h2:∀ x∈v.ns,x.length≤maxLen) (h3:v.ms.length≤4611686018427387904) :
  Calls Tryz.prog 48 #[.agg cs.toArray] w (qeI (own v.k v.n v.s v.l.length v.ns v.ms.length) w):=by
 obtain ⟨A,c,A2,c2,rfl,hn,_,hM⟩:=hR.cells;have hO:=fun w=>qdm v.k v.n (ae v.s) A A2 v.l.length c v.ms.length c2 w;have hI:own v.k v.n v.s v.l.length v.ns v.ms.length↔_:=qkG (aA v.s);have hB:=fun w=>qbv (ae v.s) w (by rw [aF];exact h1);rw [qag] at hB;have hN:=fun w1 (hb:Below w.heap.size w w1)=>qen A2 c2 v.ns v.ms lo w1 hn (fun h0=>by
  obtain ⟨g,o,e,g1,g2,g3⟩:=hM h0;exact ⟨g,o,e,g1,Nat.lt_of_lt_of_le g2 hb.size,aL.keep (fun p _ hp=>hb.cell hp) (Nat.le_refl _) hb.size _ _ _ _ g1 g2 g3⟩) h2 h3
 clear hM hn hR h1 h2;generalize own v.k v.n v.s v.l.length v.ns v.ms.length=Q at *;generalize oth v.k v.n (ae v.s) v.l.length v.ms.length=O at *;generalize okS v.s=P1 at *;generalize qal v.ns=P2 at *;generalize ae v.s=S at *;generalize v.k=k at *;generalize v.n=n at *;generalize v.l.length=a at *;generalize v.ms.length=b at *;have HI:=zh hI;clear hI;have HO:=zh hO;clear hO;have HB:=zh hB;clear hB;have HN:=zh hN;clear hN;go_enter Tryz.func48,Tryz.ntmps48;go_wp2_with fail;refine (HO.out _).mono ?_;rintro e w1 ⟨⟨x,rfl,hx⟩,hb⟩;have hbw:Below w.heap.size w w1:=((Below.refl w.heap.size w).alloc (Nat.le_refl _) _).trans (hb.mono (by simp));have f0:=(hb.cell (p:=⟨w.heap.size,0,none⟩) (by simp)).trans ((cell_of_row _ _ 0 _ _ _ (heap_alloc_new w _)).trans rfl);have f1:=(hb.cell (p:=⟨w.heap.size,1,none⟩) (by simp)).trans ((cell_of_row _ _ 1 _ _ _ (heap_alloc_new w _)).trans rfl);have f2:=(hb.cell (p:=⟨w.heap.size,2,none⟩) (by simp)).trans ((cell_of_row _ _ 2 _ _ _ (heap_alloc_new w _)).trans rfl);have f4:=(hb.cell (p:=⟨w.heap.size,4,none⟩) (by simp)).trans ((cell_of_row _ _ 4 _ _ _ (heap_alloc_new w _)).trans rfl);have HBW:=zh hbw;have HX:=zh hx;clear hb hx hbw;cases x with
 | true=>
  go_wp2_with fail;go_ret;exact ⟨⟨_,rfl,by rw [HI.out];simp;exact fun h=>absurd (HX.out.1 (by trivial)) h⟩,HBW.out⟩
 | false=>
  have hno:¬O:=fun h=>by have:=HX.out.2 h;simp at this
  go_wp2_with (first | (go_at_call 65;refine (HB.out _).mono ?_;rintro e w' ⟨⟨y,rfl,hy⟩,rfl⟩) | (go_at_call 66;refine (HN.out _ HBW.out).mono ?_;rintro e w2 ⟨⟨y,rfl,hy⟩,hb2⟩))
  all_goals
   go_ret;refine ⟨⟨_,rfl,?_⟩,by first | exact HBW.out | exact HBW.out.trans (hb2.mono HBW.out.size)⟩;have hq:=HI.out;clear HI HO HB HN HBW HX;rw [hq];clear hq
   simp_all
   try omega
